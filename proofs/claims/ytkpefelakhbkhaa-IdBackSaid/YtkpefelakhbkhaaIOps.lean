/-
  The program's Apart, Same, Sum, Split.
-/
import Derived.Test.YtkpefelakhbkhaaIArg
namespace Go.Proofs.Ytkpefelakhbkhaa.I
open Go.RowKit

def apartB (S T : Option Tr) : Bool := match S, T with
  | some s, some t => !(bothT s t)
  | _, _ => false
def sameO (S T : Option Tr) : Bool := match S, T with
  | some s, some t => sameB s t
  | _, _ => false

set_option maxRecDepth 100000 in
set_option maxHeartbeats 1600000 in
theorem apart_arg {w : World} {S T : Option Tr} {u v : Value} (hu : Arg w S u) (hv : Arg w T v) : Calls Try.prog 22 #[u, v] w fun e w' => e = .returned (.bool (apartB S T)) ∧ Below w.heap.size w w' := by
  obtain ⟨o1, A1, n1, c1, rfl⟩ := hu.form
  obtain ⟨o2, A2, n2, c2, rfl⟩ := hv.form
  have HX := Lib.hid (((XS.begin w).boxed (.bool o1) (.slice A1 n1 c1)).boxed (.bool o2) (.slice A2 n2 c2))
  have HU := Lib.hid hu
  have HV := Lib.hid hv
  clear hu hv
  have hr1 := fun W (h : Below w.heap.size w W) => right_arg (HU.out.up h)
  have hr2 := fun W (h : Below w.heap.size w W) => right_arg (HV.out.up h)
  unfold tv at hr1 hr2 ⊢
  go_enter Try.func22, Try.ntmps22
  go_wp2_with fail
  refine (hr1 _ HX.out.bel).mono ?_
  rintro e w1 ⟨rfl, hb1⟩
  have HX1 := Lib.hid (HX.out.next hb1)
  clear hb1 hr1 HX
  have f := HX1.out.at0
  simp only [List.nil_append, List.cons_append, List.mem_cons, List.not_mem_nil, or_false, forall_eq_or_imp, forall_eq, World.size_alloc] at f
  obtain ⟨⟨a0, a1, l1⟩, b0, b1, l2⟩ := f
  cases S with
  | none =>
    simp only [Option.isSome_none]
    go_wp2
    go_ret
    exact ⟨rfl, HX1.out.bel⟩
  | some s =>
    simp only [Option.isSome_some]
    go_wp2_with fail
    refine (hr2 _ HX1.out.bel).mono ?_
    rintro e w2 ⟨rfl, hb2⟩
    have HX2 := Lib.hid (HX1.out.next hb2)
    clear hb2 hr2 HX1 a0 a1 l1 b0 b1 l2
    have f := HX2.out.at0
    simp only [List.nil_append, List.cons_append, List.mem_cons, List.not_mem_nil, or_false, forall_eq_or_imp, forall_eq, World.size_alloc] at f
    obtain ⟨⟨a0, a1, l1⟩, b0, b1, l2⟩ := f
    cases T with
    | none =>
      simp only [Option.isSome_none]
      go_wp2
      go_ret
      exact ⟨rfl, HX2.out.bel⟩
    | some t =>
      simp only [Option.isSome_some]
      have hc := meet_tr s t _ _ w2 (HU.out.up HX2.out.bel).inT.1 (HV.out.up HX2.out.bel).inT.1
      unfold tv at hc
      go_wp2_with fail
      refine hc.mono ?_
      rintro e w3 ⟨rfl, hb3⟩
      have HX3 := Lib.hid (HX2.out.next hb3)
      clear hb3 hc HX2 a0 a1 l1 b0 b1 l2
      go_wp2
      go_ret
      exact ⟨rfl, HX3.out.bel⟩

set_option maxRecDepth 100000 in
set_option maxHeartbeats 1600000 in
theorem same_arg {w : World} {S T : Option Tr} {u v : Value} (hu : Arg w S u) (hv : Arg w T v) : Calls Try.prog 24 #[u, v] w fun e w' => e = .returned (.bool (sameO S T)) ∧ Below w.heap.size w w' := by
  obtain ⟨o1, A1, n1, c1, rfl⟩ := hu.form
  obtain ⟨o2, A2, n2, c2, rfl⟩ := hv.form
  have HX := Lib.hid (((XS.begin w).boxed (.bool o1) (.slice A1 n1 c1)).boxed (.bool o2) (.slice A2 n2 c2))
  have HU := Lib.hid hu
  have HV := Lib.hid hv
  clear hu hv
  have hr1 := fun W (h : Below w.heap.size w W) => right_arg (HU.out.up h)
  have hr2 := fun W (h : Below w.heap.size w W) => right_arg (HV.out.up h)
  unfold tv at hr1 hr2 ⊢
  go_enter Try.func24, Try.ntmps24
  go_wp2_with fail
  refine (hr1 _ HX.out.bel).mono ?_
  rintro e w1 ⟨rfl, hb1⟩
  have HX1 := Lib.hid (HX.out.next hb1)
  clear hb1 hr1 HX
  have f := HX1.out.at0
  simp only [List.nil_append, List.cons_append, List.mem_cons, List.not_mem_nil, or_false, forall_eq_or_imp, forall_eq, World.size_alloc] at f
  obtain ⟨⟨a0, a1, l1⟩, b0, b1, l2⟩ := f
  cases S with
  | none =>
    simp only [Option.isSome_none]
    go_wp2
    go_ret
    exact ⟨rfl, HX1.out.bel⟩
  | some s =>
    simp only [Option.isSome_some]
    go_wp2_with fail
    refine (hr2 _ HX1.out.bel).mono ?_
    rintro e w2 ⟨rfl, hb2⟩
    have HX2 := Lib.hid (HX1.out.next hb2)
    clear hb2 hr2 HX1 a0 a1 l1 b0 b1 l2
    have f := HX2.out.at0
    simp only [List.nil_append, List.cons_append, List.mem_cons, List.not_mem_nil, or_false, forall_eq_or_imp, forall_eq, World.size_alloc] at f
    obtain ⟨⟨a0, a1, l1⟩, b0, b1, l2⟩ := f
    cases T with
    | none =>
      simp only [Option.isSome_none]
      go_wp2
      go_ret
      exact ⟨rfl, HX2.out.bel⟩
    | some t =>
      simp only [Option.isSome_some]
      have hc := same_tr s t _ _ w2 (HU.out.up HX2.out.bel).inT.1 (HV.out.up HX2.out.bel).inT.1
      unfold tv at hc
      go_wp2_with fail
      refine hc.mono ?_
      rintro e w3 ⟨rfl, hb3⟩
      have HX3 := Lib.hid (HX2.out.next hb3)
      clear hb3 hc HX2 a0 a1 l1 b0 b1 l2
      go_wp2
      go_ret
      exact ⟨rfl, HX3.out.bel⟩

/-- What Sum answers. -/
def sumR (S T : Option Tr) : Tr × Int := match S, T with
  | some s, some t => if bothT s t = true then (.leaf false, 42) else if (fit (sumT s t).norm).isSome = true then ((sumT s t).norm, 0) else (.leaf false, 2)
  | _, _ => (.leaf false, 2)

set_option maxRecDepth 100000 in
set_option maxHeartbeats 1600000 in
theorem sum_arg {w : World} {S T : Option Tr} {u v : Value} (hu : Arg w S u) (hv : Arg w T v) : Calls Try.prog 20 #[u, v] w (Ans (sumR S T) w) := by
  obtain ⟨o1, A1, n1, c1, rfl⟩ := hu.form
  obtain ⟨o2, A2, n2, c2, rfl⟩ := hv.form
  have HX := Lib.hid ((((XS.begin w).boxed (.bool o1) (.slice A1 n1 c1)).boxed (.bool o2) (.slice A2 n2 c2)).fresh (.bool false) (.slice none 0 0))
  simp only [List.nil_append, List.cons_append, World.size_alloc] at HX
  have HU := Lib.hid hu
  have HV := Lib.hid hv
  clear hu hv
  have hr1 := fun W (h : Below w.heap.size w W) => right_arg (HU.out.up h)
  have hr2 := fun W (h : Below w.heap.size w W) => right_arg (HV.out.up h)
  have HNO : Hid (∀ W z, XS w [(w.heap.size, .bool o1, .slice A1 n1 c1), (w.heap.size + 1, .bool o2, .slice A2 n2 c2)] [w.heap.size + 1 + 1] W → Ans (.leaf false, z) w (.returned (.tuple #[tv false none 0 0, .int .i64 z])) ((W.setCell ⟨w.heap.size + 1 + 1, 0, none⟩ (.bool false)).setCell ⟨w.heap.size + 1 + 1, 1, none⟩ (.slice none 0 0))) :=
    fun W z h => ⟨_, rfl, (h.fin (zero_in _ _) _ (by simp) _ _).1, (h.fin (zero_in _ _) _ (by simp) _ _).2⟩
  unfold tv at hr1 hr2 ⊢
  go_enter Try.func20, Try.ntmps20
  go_wp2_with fail
  refine (hr1 _ HX.out.bel).mono ?_
  rintro e w1 ⟨rfl, hb1⟩
  have HX1 := Lib.hid (HX.out.next hb1)
  clear hb1 hr1 HX
  have f := HX1.out.at0
  simp only [List.mem_cons, List.not_mem_nil, or_false, forall_eq_or_imp, forall_eq] at f
  obtain ⟨⟨a0, a1, l1⟩, b0, b1, l2⟩ := f
  obtain ⟨y0, y1, ⟨d0, d1⟩, f0, f1⟩ := HX1.out.facts _ (List.mem_singleton.2 rfl)
  cases S with
  | none =>
    simp only [Option.isSome_none]
    have H := Lib.hid (HNO.out w1 2 HX1.out)
    clear HX1 HNO l1 l2
    go_wp2
    refine bodyPost_ret (v := .tuple #[tv false none 0 0, .int .i64 2]) (by simp [results, Try.f20, go_sem, tv, d0, d1]) rfl ?_
    exact H.out
  | some s =>
    simp only [Option.isSome_some]
    clear d0 d1 f0 f1
    go_wp2_with fail
    refine (hr2 _ HX1.out.bel).mono ?_
    rintro e w2 ⟨rfl, hb2⟩
    have HX2 := Lib.hid (HX1.out.next hb2)
    clear hb2 hr2 HX1 a0 a1 l1 b0 b1 l2
    have f := HX2.out.at0
    simp only [List.mem_cons, List.not_mem_nil, or_false, forall_eq_or_imp, forall_eq] at f
    obtain ⟨⟨a0, a1, l1⟩, b0, b1, l2⟩ := f
    cases T with
    | none =>
      simp only [Option.isSome_none]
      obtain ⟨y0, y1, ⟨d0, d1⟩, f0, f1⟩ := HX2.out.facts _ (List.mem_singleton.2 rfl)
      have H := Lib.hid (HNO.out w2 2 HX2.out)
      clear HX2 HNO l1 l2
      go_wp2
      refine bodyPost_ret (v := .tuple #[tv false none 0 0, .int .i64 2]) (by simp [results, Try.f20, go_sem, tv, d0, d1]) rfl ?_
      exact H.out
    | some t =>
      simp only [Option.isSome_some]
      have hc := meet_tr s t _ _ w2 (HU.out.up HX2.out.bel).inT.1 (HV.out.up HX2.out.bel).inT.1
      unfold tv at hc
      go_wp2_with fail
      refine hc.mono ?_
      rintro e w3 ⟨rfl, hb3⟩
      have HX3 := Lib.hid (HX2.out.next hb3)
      clear hb3 hc HX2 a0 a1 l1 b0 b1 l2
      have f := HX3.out.at0
      simp only [List.mem_cons, List.not_mem_nil, or_false, forall_eq_or_imp, forall_eq] at f
      obtain ⟨⟨a0, a1, l1⟩, b0, b1, l2⟩ := f
      by_cases hbo : bothT s t = true
      · rw [hbo]
        obtain ⟨y0, y1, ⟨d0, d1⟩, f0, f1⟩ := HX3.out.facts _ (List.mem_singleton.2 rfl)
        have H := Lib.hid (HNO.out w3 42 HX3.out)
        have HE : Hid (sumR (some s) (some t) = (.leaf false, 42)) := if_pos hbo
        clear HX3 HNO l1 l2 hbo
        go_wp2
        refine bodyPost_ret (v := .tuple #[tv false none 0 0, .int .i64 42]) (by simp [results, Try.f20, go_sem, tv, d0, d1]) rfl ?_
        rw [HE.out]
        exact H.out
      · have hbf : bothT s t = false := by simpa using hbo
        rw [hbf]
        have hc := union_any s t _ _ w3 (HU.out.up HX3.out.bel).inT.1 (HV.out.up HX3.out.bel).inT.1
        have HE : Hid (sumR (some s) (some t) = if (fit (sumT s t).norm).isSome = true then ((sumT s t).norm, 0) else (.leaf false, 2)) := if_neg hbo
        obtain ⟨Z, hZ⟩ : ∃ Z, (sumT s t).norm = Z := ⟨_, rfl⟩
        rw [hZ] at hc HE
        unfold tv at hc
        clear hbo hbf hZ
        go_wp2_with fail
        refine hc.mono ?_
        rintro e w4 ⟨v4, rfl, ht4, hb4⟩
        obtain ⟨o5, A5, n5, c5, rfl⟩ := ht4.form
        have HX4 := Lib.hid (HX3.out.next hb4)
        have HX5 := Lib.hid (HX4.out.boxed (.bool o5) (.slice A5 n5 c5))
        have ht5 := ht4.up ((Below.refl _ w4).alloc (Nat.le_refl _) (.cells #[.bool o5, .slice A5 n5 c5] 24))
        have HT5 := Lib.hid ht5
        have hr := right_arg (arg_of ht5)
        clear hb4 hc HX3 a0 a1 l1 b0 b1 l2 ht4 HX4 ht5
        unfold tv at hr ⊢
        go_wp2_with fail
        refine hr.mono ?_
        rintro e w6 ⟨rfl, hb6⟩
        have HX6 := Lib.hid (HX5.out.next hb6)
        have HT6 := Lib.hid (HT5.out.up hb6)
        clear hb6 hr HX5 HT5
        have f := HX6.out.at0
        simp only [List.cons_append, List.nil_append, List.mem_cons, List.not_mem_nil, or_false, forall_eq_or_imp, forall_eq] at f
        obtain ⟨⟨a0, a1, l1⟩, ⟨b0, b1, l2⟩, e0, e1, l3⟩ := f
        obtain ⟨y0, y1, ⟨d0, d1⟩, f0, f1⟩ := HX6.out.facts _ (List.mem_singleton.2 rfl)
        cases hfz : (fit Z).isSome with
        | false =>
          have HF : Hid (Ans (.leaf false, 2) w (.returned (.tuple #[tv false none 0 0, .int .i64 2])) ((w6.setCell ⟨w.heap.size + 1 + 1, 0, none⟩ (.bool false)).setCell ⟨w.heap.size + 1 + 1, 1, none⟩ (.slice none 0 0))) :=
            ⟨_, rfl, (HX6.out.fin (zero_in _ _) _ (by simp) _ _).1, (HX6.out.fin (zero_in _ _) _ (by simp) _ _).2⟩
          rw [hfz] at HE
          clear HX6 HT6 l1 l2 l3 a0 a1 b0 b1 e0 e1 hfz
          go_wp2
          refine bodyPost_ret (v := .tuple #[tv false none 0 0, .int .i64 2]) (by simp [results, Try.f20, go_sem, tv, d0, d1]) rfl ?_
          rw [HE.out, if_neg (by simp)]
          exact HF.out
        | true =>
          have HF : Hid (Ans (Z, 0) w (.returned (.tuple #[tv o5 A5 n5 c5, .int .i64 0])) ((w6.setCell ⟨w.heap.size + 1 + 1, 0, none⟩ (.bool o5)).setCell ⟨w.heap.size + 1 + 1, 1, none⟩ (.slice A5 n5 c5))) :=
            ⟨_, rfl, (HX6.out.fin HT6.out _ (by simp) _ _).1, (HX6.out.fin HT6.out _ (by simp) _ _).2⟩
          rw [hfz] at HE
          clear HX6 HT6 l1 l2 l3 a0 a1 b0 b1 hfz
          go_wp2
          refine bodyPost_ret (v := .tuple #[tv o5 A5 n5 c5, .int .i64 0]) (by simp [results, Try.f20, go_sem, tv, d0, d1]) rfl ?_
          rw [HE.out, if_pos trivial]
          exact HF.out

/-- What Split answers. -/
def splitR (T : Option Tr) : (Tr × Tr) × Int := match T with
  | some t => if (fit (splitT t.norm).1).isSome = true ∧ (fit (splitT t.norm).2).isSome = true then (splitT t.norm, 0) else ((.leaf false, .leaf false), 41)
  | none => ((.leaf false, .leaf false), 2)
/-- Two trees and an error's number. -/
def Ans2 (r : (Tr × Tr) × Int) (w : World) (e : Ending) (w' : World) : Prop := ∃ v1 v2, e = .returned (.tuple #[v1, v2, .int .i64 r.2]) ∧ InT w' w'.heap.size r.1.1 v1 ∧ InT w' w'.heap.size r.1.2 v2 ∧ Below w.heap.size w w'
theorem XS.fin2 {w W : World} {bs : List (Nat × Value × Value)} {rs : List Nat} (h : XS w bs rs W) {s t : Tr} {x y : Value} (hs : InT W W.heap.size s x) (ht : InT W W.heap.size t y) (g g' : Nat) (hg : g ∈ rs) (hg' : g' ∈ rs) (z u1 u2 u3 u4 : Value) (k : Int) (hd : ∀ b ∈ bs, b.1 ≠ g) (hd' : ∀ b ∈ bs, b.1 ≠ g') (hz : z = .int .i64 k) :
    Ans2 ((s, t), k) w (.returned (.tuple #[x, y, z])) ((((W.setCell ⟨g, 0, none⟩ u1).setCell ⟨g, 1, none⟩ u2).setCell ⟨g', 0, none⟩ u3).setCell ⟨g', 1, none⟩ u4) := by
  subst hz
  have h1 := (h.store g 0 u1 hg hd).store g 1 u2 hg hd
  have h2 := h1.store g' 0 u3 hg' hd'
  have k1 := fun {q : Tr} {z : Value} (hq : InT W W.heap.size q z) => h2.tree (h1.tree ((h.store g 0 u1 hg hd).tree (h.tree hq g 0 u1 hg) g 1 u2 hg) g' 0 u3 hg') g' 1 u4 hg'
  exact ⟨_, _, rfl, k1 hs, k1 ht, (h2.store g' 1 u4 hg' hd').bel⟩

set_option maxRecDepth 100000 in
set_option maxHeartbeats 1600000 in
theorem split_arg {w : World} {T : Option Tr} {v : Value} (hv : Arg w T v) : Calls Try.prog 15 #[v] w (Ans2 (splitR T) w) := by
  obtain ⟨o, A, n, c, rfl⟩ := hv.form
  have HX := Lib.hid ((((XS.begin w).boxed (.bool o) (.slice A n c)).fresh (.bool false) (.slice none 0 0)).fresh (.bool false) (.slice none 0 0))
  simp only [List.nil_append, List.cons_append, World.size_alloc] at HX
  have HV := Lib.hid hv
  clear hv
  have hr := right_arg (HV.out.up HX.out.bel)
  unfold tv at hr ⊢
  go_enter Try.func15, Try.ntmps15
  go_wp2_with fail
  refine hr.mono ?_
  rintro e w1 ⟨rfl, hb1⟩
  have HX1 := Lib.hid (HX.out.next hb1)
  clear hb1 hr HX
  have f := HX1.out.at0
  simp only [List.mem_cons, List.not_mem_nil, or_false, forall_eq] at f
  obtain ⟨a0, a1, l1⟩ := f
  cases T with
  | none =>
    simp only [Option.isSome_none]
    obtain ⟨y0, y1, ⟨d0, d1⟩, f0, f1⟩ := HX1.out.facts (w.heap.size + 1) (by simp)
    obtain ⟨y2, y3, ⟨d2, d3⟩, f2, f3⟩ := HX1.out.facts (w.heap.size + 1 + 1) (by simp)
    have H := Lib.hid (HX1.out.fin2 (zero_in _ _) (zero_in _ _) (w.heap.size + 1) (w.heap.size + 1 + 1) (by simp) (by simp) (.int .i64 2) (.bool false) (.slice none 0 0) (.bool false) (.slice none 0 0) 2 (by simp) (by simp; omega) rfl)
    clear HX1 l1 a0 a1
    go_wp2
    refine bodyPost_ret (v := .tuple #[tv false none 0 0, tv false none 0 0, .int .i64 2]) (by simp [results, Try.f15, go_sem, tv, d0, d1, d2, d3]) rfl ?_
    exact H.out
  | some t =>
    simp only [Option.isSome_some]
    have hc := norm_any t _ w1 (HV.out.up HX1.out.bel).inT.1
    unfold tv at hc
    go_wp2_with fail
    refine hc.mono ?_
    rintro e w2 ⟨v2, rfl, ht2, hb2⟩
    have HX2 := Lib.hid (HX1.out.next hb2)
    have hc2 := split_any t.norm v2 w2 ht2
    clear hb2 hc HX1 a0 a1 l1 ht2
    go_wp2_with fail
    refine hc2.mono ?_
    rintro e w3 ⟨x, y, rfl, hx3, hy3, hb3⟩
    obtain ⟨o1, A1, n1, c1, rfl⟩ := hx3.form
    obtain ⟨o2, A2, n2, c2, rfl⟩ := hy3.form
    have hx4 := HX2.out.next hb3
    have HX5 := Lib.hid ((hx4.boxed (.bool o1) (.slice A1 n1 c1)).boxed (.bool o2) (.slice A2 n2 c2))
    have hb5 : Below w3.heap.size w3 ((w3.alloc (.cells #[.bool o1, .slice A1 n1 c1] 24)).alloc (.cells #[.bool o2, .slice A2 n2 c2] 24)) := ((Below.refl _ w3).alloc (Nat.le_refl _) _).alloc (by simp) _
    have HT1 := Lib.hid (hx3.up hb5)
    have HT2 := Lib.hid (hy3.up hb5)
    simp only [List.nil_append, List.cons_append, World.size_alloc] at HX5
    have hr := right_arg (arg_of HT1.out)
    have hsz : w.heap.size + 3 ≤ w3.heap.size := by have := (hx4.box (w.heap.size + 1 + 1) (by simp)).2.1; omega
    have HSZ := Lib.hid hsz
    clear hb3 hc2 HX2 hx3 hy3 hx4 hb5 hsz
    unfold tv at hr ⊢
    go_wp2_with fail
    refine hr.mono ?_
    rintro e w6 ⟨rfl, hb6⟩
    have HX6 := Lib.hid (HX5.out.next hb6)
    have HU1 := Lib.hid (HT1.out.up hb6)
    have HU2 := Lib.hid (HT2.out.up hb6)
    clear hb6 hr HX5 HT1 HT2
    have f := HX6.out.at0
    simp only [List.mem_cons, List.not_mem_nil, or_false, forall_eq_or_imp, forall_eq] at f
    obtain ⟨⟨a0, a1, l1⟩, ⟨b0, b1, l2⟩, e0, e1, l3⟩ := f
    have HE : Hid (splitR (some t) = if (fit (splitT t.norm).1).isSome = true ∧ (fit (splitT t.norm).2).isSome = true then (splitT t.norm, 0) else ((.leaf false, .leaf false), 41)) := rfl
    obtain ⟨X, hX⟩ : ∃ X, splitT t.norm = X := ⟨_, rfl⟩
    rw [hX] at HE HU1 HU2 ⊢
    clear hX
    cases hf1 : (fit X.1).isSome with
    | false =>
      obtain ⟨y0, y1, ⟨d0, d1⟩, f0, f1⟩ := HX6.out.facts (w.heap.size + 1) (by simp)
      obtain ⟨y2, y3, ⟨d2, d3⟩, f2, f3⟩ := HX6.out.facts (w.heap.size + 1 + 1) (by simp)
      have H := Lib.hid (HX6.out.fin2 (zero_in _ _) (zero_in _ _) (w.heap.size + 1) (w.heap.size + 1 + 1) (by simp) (by simp) (.int .i64 41) (.bool false) (.slice none 0 0) (.bool false) (.slice none 0 0) 41 (by have := HSZ.out; simp; omega) (by have := HSZ.out; simp; omega) rfl)
      rw [hf1] at HE
      clear HX6 HU1 HU2 l1 l2 l3 a0 a1 b0 b1 e0 e1 hf1 HSZ
      go_wp2
      refine bodyPost_ret (v := .tuple #[tv false none 0 0, tv false none 0 0, .int .i64 41]) (by simp [results, Try.f15, go_sem, tv, d0, d1, d2, d3]) rfl ?_
      rw [HE.out, if_neg (by simp)]
      exact H.out
    | true =>
      have hr := right_arg (arg_of HU2.out)
      unfold tv at hr
      go_wp2_with fail
      refine hr.mono ?_
      rintro e w7 ⟨rfl, hb7⟩
      have HX7 := Lib.hid (HX6.out.next hb7)
      have HV1 := Lib.hid (HU1.out.up hb7)
      have HV2 := Lib.hid (HU2.out.up hb7)
      clear hb7 hr HX6 HU1 HU2 a0 a1 l1 b0 b1 l2 e0 e1 l3
      have f := HX7.out.at0
      simp only [List.mem_cons, List.not_mem_nil, or_false, forall_eq_or_imp, forall_eq] at f
      obtain ⟨⟨a0, a1, l1⟩, ⟨b0, b1, l2⟩, e0, e1, l3⟩ := f
      rw [hf1] at HE
      clear hf1
      cases hf2 : (fit X.2).isSome with
      | false =>
        obtain ⟨y0, y1, ⟨d0, d1⟩, f0, f1⟩ := HX7.out.facts (w.heap.size + 1) (by simp)
        obtain ⟨y2, y3, ⟨d2, d3⟩, f2, f3⟩ := HX7.out.facts (w.heap.size + 1 + 1) (by simp)
        have H := Lib.hid (HX7.out.fin2 (zero_in _ _) (zero_in _ _) (w.heap.size + 1) (w.heap.size + 1 + 1) (by simp) (by simp) (.int .i64 41) (.bool false) (.slice none 0 0) (.bool false) (.slice none 0 0) 41 (by have := HSZ.out; simp; omega) (by have := HSZ.out; simp; omega) rfl)
        rw [hf2] at HE
        clear HX7 HV1 HV2 l1 l2 l3 a0 a1 b0 b1 e0 e1 hf2 HSZ
        go_wp2
        refine bodyPost_ret (v := .tuple #[tv false none 0 0, tv false none 0 0, .int .i64 41]) (by simp [results, Try.f15, go_sem, tv, d0, d1, d2, d3]) rfl ?_
        rw [HE.out, if_neg (by simp)]
        exact H.out
      | true =>
        rw [hf2] at HE
        clear hf2
        have hXD := HX7.out.drew
        have HW1 := Lib.hid (HV1.out.up ((Below.refl w7.heap.size w7).drew))
        have HW2 := Lib.hid (HV2.out.up ((Below.refl w7.heap.size w7).drew))
        clear a0 a1 l1 b0 b1 l2 e0 e1 l3 HX7 HV1 HV2
        go_wp2
        refine wp_region_held_drew (S := fun W => XS w [(w.heap.size, .bool o, .slice A n c), (w3.heap.size, .bool o1, .slice A1 n1 c1), (w3.heap.size + 1, .bool o2, .slice A2 n2 c2)] [w.heap.size + 1, w.heap.size + 1 + 1] W) (by kernel_rfl) hXD (fun hS => ?_)
        clear hXD
        generalize w7.drew = wd at hS HW1 HW2 ⊢
        refine wpAnyH_take (i := 0) (v := ?_) rfl (by kernel_rfl) (by kernel_rfl) (by kernel_rfl) (fun _ _ _ h => h) (Or.inl ⟨by kernel_rfl, fun W hW => ?_⟩) hS ?_
        rotate_left
        · have f := hW.at0
          simp only [List.mem_cons, List.not_mem_nil, or_false, forall_eq_or_imp, forall_eq] at f
          obtain ⟨⟨a0, a1, l1⟩, ⟨b0, b1, l2⟩, e0, e1, l3⟩ := f
          first | (go_simp; done) | (go_simp; with_reducible rfl)
        refine wpAnyH_take (i := 1) (v := ?_) rfl (by kernel_rfl) (by kernel_rfl) (by kernel_rfl) (fun _ _ _ h => h) (Or.inl ⟨by kernel_rfl, fun W hW => ?_⟩) hS ?_
        rotate_left
        · have f := hW.at0
          simp only [List.mem_cons, List.not_mem_nil, or_false, forall_eq_or_imp, forall_eq] at f
          obtain ⟨⟨a0, a1, l1⟩, ⟨b0, b1, l2⟩, e0, e1, l3⟩ := f
          first | (go_simp; done) | (go_simp; with_reducible rfl)
        have HS := Lib.hid hS
        have HFIN := Lib.hid (hS.fin2 HW1.out HW2.out (w.heap.size + 1) (w.heap.size + 1 + 1) (by simp) (by simp) (.int .i64 0) (.bool o1) (.slice A1 n1 c1) (.bool o2) (.slice A2 n2 c2) 0 (by have := HSZ.out; simp; omega) (by have := HSZ.out; simp; omega) rfl)
        have HS1 := Lib.hid ((hS.store (w.heap.size + 1) 0 (.bool o1) (by simp) (by have := HSZ.out; simp; omega)).store (w.heap.size + 1) 1 (.slice A1 n1 c1) (by simp) (by have := HSZ.out; simp; omega))
        have HS2 := Lib.hid ((HS1.out.store (w.heap.size + 1 + 1) 0 (.bool o2) (by simp) (by have := HSZ.out; simp; omega)).store (w.heap.size + 1 + 1) 1 (.slice A2 n2 c2) (by simp) (by have := HSZ.out; simp; omega))
        obtain ⟨y0, y1, ⟨d0, d1⟩, f0, f1⟩ := hS.facts (w.heap.size + 1) (by simp)
        obtain ⟨y2, y3, ⟨d2, d3⟩, f2, f3⟩ := hS.facts (w.heap.size + 1 + 1) (by simp)
        clear hS HS HW1 HW2
        refine wpAnyH_ready (rs := [2]) (by kernel_rfl) (by simp) ?_
        refine AllReadyH.cons rfl (fun K hK => ?_) AllReadyH.nil
        go_simp
        go_wp2
        refine hK.out _ _ HS1.out (fun _ => ?_)
        clear hK K
        refine wpAnyH_ready (rs := [3]) (by kernel_rfl) (by simp) ?_
        refine AllReadyH.cons rfl (fun K hK => ?_) AllReadyH.nil
        go_simp
        go_wp2
        refine hK.out _ _ HS2.out (fun hS => ?_)
        clear hK K HS1 HS2
        refine wpAnyH_take (i := 4) (v := ?_) rfl (by kernel_rfl) (by kernel_rfl) (by kernel_rfl) (fun _ _ _ h => h) (Yields.yieldsIf (Or.inl ⟨by kernel_rfl, ?_⟩)) hS ?_
        rotate_left
        · first | (intro w; go_simp; done) | (intro w; go_simp; with_reducible rfl)
        refine wpAnyH_done (by kernel_rfl) ?_ _
        clear hS
        go_wp2
        refine bodyPost_ret (v := .tuple #[tv o1 A1 n1 c1, tv o2 A2 n2 c2, .int .i64 0]) (by simp [results, Try.f15, go_sem, tv, d0, d1, d2, d3]) rfl ?_
        rw [HE.out, if_pos ⟨trivial, trivial⟩]
        exact HFIN.out
end Go.Proofs.Ytkpefelakhbkhaa.I
