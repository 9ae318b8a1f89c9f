/-
  The reference's take.
  The reference's Take.
-/
import Derived.Test.YtkpefelakhbkhaaIRLay
namespace Go.Proofs.Ytkpefelakhbkhaa.I
open Go.RowKit

/-- What reads a tree from bits. -/
def TakeB (r : Option (Tr × Nat)) (w : World) (e : Ending) (w' : World) : Prop :=
  (match r with
    | some q => ∃ v, e = .returned (.tuple #[v, .int .i64 (q.2 : Int)]) ∧ InT w' w'.heap.size q.1 v
    | none => e = .returned (.tuple #[tv false none 0 0, .int .i64 (-1)])) ∧ Below w.heap.size w w'
theorem XS.noB {w W : World} {bs : List (Nat × Value × Value)} {rs : List Nat} (h : XS w bs (w.heap.size :: rs) W) : TakeB .none w (.returned (.tuple #[tv false Option.none 0 0, .int .i64 (-1)])) ((W.setCell ⟨w.heap.size, 0, Option.none⟩ (.bool false)).setCell ⟨w.heap.size, 1, Option.none⟩ (.slice Option.none 0 0)) :=
  ⟨rfl, (h.fin (zero_in _ _) _ (by simp) _ _).2⟩
theorem XS.yesB {w W : World} {bs : List (Nat × Value × Value)} {rs : List Nat} (h : XS w bs (w.heap.size :: rs) W) {t : Tr} {v : Value} (ht : InT W W.heap.size t v) (p : Nat) (z : Int) (hz : z = (p : Int)) (u1 u2 : Value) : TakeB (.some (t, p)) w (.returned (.tuple #[v, .int .i64 z])) ((W.setCell ⟨w.heap.size, 0, Option.none⟩ u1).setCell ⟨w.heap.size, 1, Option.none⟩ u2) := by
  subst hz
  exact ⟨⟨_, rfl, (h.fin ht _ (by simp) _ _).1⟩, (h.fin ht _ (by simp) _ _).2⟩
theorem take_in {l : List Nat} {n a : Nat} (hV : M.Valid l n) (ha : a < n) : takeV l (n : Int) (a : Int) 1 = (((M.bitAt l a : Nat) : Int), 0) := by
  unfold takeV
  rw [if_pos ⟨M.rightB_nat hV, by omega, by omega, by omega, by omega⟩, if_neg (by omega)]
  have : M.num l ((a : Int).toNat) ((1 : Int).toNat) = M.bitAt l a := by
    rw [show (a : Int).toNat = a by omega, show (1 : Int).toNat = 0 + 1 from rfl, M.num_succ l a 0 (by decide)]
    have := M.num_lt l a 0
    simp at this
    rw [this]; simp
  rw [this]
theorem take_end {l : List Nat} {n : Nat} (hV : M.Valid l n) : takeV l (n : Int) (n : Int) 1 = (0, 10) := by
  unfold takeV
  rw [if_pos ⟨M.rightB_nat hV, by omega, by omega, by omega, by omega⟩, if_pos (by omega)]
theorem take_last {l : List Nat} {n a : Nat} (hV : M.Valid l n) (h : a = n) : takeV l (n : Int) (a : Int) 1 = (0, 10) := by rw [h]; exact take_end hV
theorem rb_lim {B : Nat → Nat} {n d a : Nat} (hB : ∀ i, B i < 2) {t : Tr} {p : Nat} (h : rb B n d a = some (t, p)) : a < p ∧ p ≤ n := by
  obtain ⟨_, h2, h3, _⟩ := rb_bits B n hB d a t p h
  have := bits_pos t
  omega

theorem past_three (w : World) (x y : Obj) (g i k : Nat) (u v : Value) (hg : g < w.heap.size) : (((w.alloc x).alloc y).setCell ⟨g, i, none⟩ u).setCell ⟨g, k, none⟩ v = (((w.setCell ⟨g, i, none⟩ u).setCell ⟨g, k, none⟩ v).alloc x).alloc y := by
  have h1 : g < (w.alloc x).heap.size := by simp; omega
  have h2 : g < (w.setCell ⟨g, i, none⟩ u).heap.size := by rw [size_set]; exact hg
  have h3 : g < ((w.setCell ⟨g, i, none⟩ u).alloc x).heap.size := by simp; omega
  rw [World.setCell_alloc_past (w := w.alloc x) y g i u h1, World.setCell_alloc_past (w := w) x g i u hg, World.setCell_alloc_past (w := (w.setCell ⟨g, i, none⟩ u).alloc x) y g k v h3, World.setCell_alloc_past (w := w.setCell ⟨g, i, none⟩ u) x g k v h2]
set_option maxRecDepth 100000 in
set_option maxHeartbeats 6400000 in
theorem rtake_any (A : Option Addr) (c : Nat) (l : List Nat) (n : Nat) (hV : M.Valid l n) (hl : l.length ≤ 140737488355328) (d : Nat) : ∀ (a : Nat) (w : World), d ≤ 33 → a ≤ n → BR w w.heap.size A l → Calls Try.prog 61 #[.slice A l.length c, .int .i64 (n : Int), .int .i64 (a : Int), .int .i64 ((d : Int) - 1)] w (TakeB (rb (M.bitAt l) n d a) w) := by
  have hn : n ≤ 1125899906842624 := by have := hV.1; omega
  have hT := fun (a : Nat) (W : World) (hW : BR W W.heap.size A l) => rTake_any A c l (n : Int) (a : Int) 1 W hW hl (by omega) (by omega)
  have HV := Lib.hid hV
  have HBL : Hid (∀ i, M.bitAt l i < 2) := M.bitAt_lt l
  clear hV
  induction d with
  | zero =>
    intro a w _ ha hr
    have HE : Hid (rb (M.bitAt l) n 0 a = none) := rfl
    have HX := Lib.hid ((XS.begin w).fresh (.bool false) (.slice none 0 0))
    simp only [List.nil_append] at HX
    have hc := hT a _ (BR.up hr HX.out.bel)
    obtain ⟨z, hz⟩ : ∃ z, takeV l (n : Int) (a : Int) 1 = z := ⟨_, rfl⟩
    rw [hz] at hc
    obtain ⟨z1, z2⟩ := z
    simp only [Int.natCast_zero, Int.zero_sub]
    clear hT hz hr
    go_enter Try.func61, Try.ntmps61
    go_wp2_with fail
    refine hc.mono ?_
    rintro e w1 ⟨rfl, hb1⟩
    have HX1 := Lib.hid (HX.out.next hb1)
    clear hc hb1 HX
    obtain ⟨y0, y1, ⟨d0, d1⟩, f0, f1⟩ := HX1.out.facts w.heap.size (by simp)
    have HN := Lib.hid (HX1.out.noB)
    clear HX1
    by_cases hz2 : z2 = 0
    · subst hz2
      go_wp2
      refine bodyPost_ret (v := .tuple #[tv false none 0 0, .int .i64 (-1)]) (by simp [results, Try.f61, go_sem, tv, d0, d1]) rfl ?_
      rw [HE.out]
      exact HN.out
    · have hz3 : (z2 == 0) = false := beq_eq_false_iff_ne.2 hz2
      have hz4 : (z2 != 0) = true := by simp [bne, hz3]
      clear hz2
      go_wp2
      refine bodyPost_ret (v := .tuple #[tv false none 0 0, .int .i64 (-1)]) (by simp [results, Try.f61, go_sem, tv, d0, d1]) rfl ?_
      rw [HE.out]
      exact HN.out
  | succ d ih =>
    intro a w hd ha hr
    have HX := Lib.hid ((XS.begin w).fresh (.bool false) (.slice none 0 0))
    simp only [List.nil_append] at HX
    obtain ⟨D, hD⟩ : ∃ D : Int, ((d + 1 : Nat) : Int) - 1 = D := ⟨_, rfl⟩
    have hD1 : (d : Int) - 1 = D - 1 := by omega
    have hD2 : 0 ≤ D := by omega
    have hD3 : D ≤ 32 := by omega
    have IH : Hid (∀ a W, a ≤ n → Below w.heap.size w W → Calls Try.prog 61 #[.slice A l.length c, .int .i64 (n : Int), .int .i64 (a : Int), .int .i64 (D - 1)] W (TakeB (rb (M.bitAt l) n d a) W)) := fun a W h hb => by rw [← hD1]; exact ih a W (by omega) h (BR.up hr hb)
    have hT2 := fun (a : Nat) (W : World) (hb : Below w.heap.size w W) => hT a W (BR.up hr hb)
    rw [hD]
    clear hD hD1 hT hr ih
    by_cases hlt : a < n
    · have HT : Hid (rb (M.bitAt l) n (d + 1) a = if M.bitAt l a = 0 then (if a + 1 < n then some (.leaf (decide (M.bitAt l (a + 1) = 1)), a + 2) else none) else
          (match rb (M.bitAt l) n d (a + 1) with
            | none => none
            | some r => (match rb (M.bitAt l) n d r.2 with
              | none => none
              | some q => some (.node r.1 q.1, q.2)))) := by show _ = _; rw [rb, if_pos hlt]; rfl
      have hc := hT2 a _ HX.out.bel
      rw [take_in HV.out hlt] at hc
      have hbt := HBL.out a
      obtain ⟨B0, hB0⟩ : ∃ B0, M.bitAt l a = B0 := ⟨_, rfl⟩
      rw [hB0] at hc HT hbt
      clear hB0
      go_enter Try.func61, Try.ntmps61
      go_wp2_with fail
      refine hc.mono ?_
      rintro e w1 ⟨rfl, hb1⟩
      have HX1 := Lib.hid (HX.out.next hb1)
      clear hc hb1 HX
      rcases (by omega : B0 = 0 ∨ B0 = 1) with rfl | rfl
      · rw [if_pos rfl] at HT
        by_cases h2 : a + 1 < n
        · rw [if_pos h2] at HT
          have hc := hT2 (a + 1) _ HX1.out.bel
          rw [take_in HV.out h2] at hc
          obtain ⟨B1, hB1⟩ : ∃ B1, M.bitAt l (a + 1) = B1 := ⟨_, rfl⟩
          rw [hB1] at hc HT
          simp only [Int.natCast_add, Int.natCast_one] at hc
          clear hB1
          go_wp2_with fail
          refine hc.mono ?_
          rintro e w2 ⟨rfl, hb2⟩
          have HX2 := Lib.hid (HX1.out.next hb2)
          clear hc hb2 HX1
          have hbq : ((B1 : Int) == 1) = decide (B1 = 1) := by
            rw [Bool.eq_iff_iff, beq_iff_eq, decide_eq_true_iff]; omega
          obtain ⟨q, hq⟩ : ∃ q, decide (B1 = 1) = q := ⟨_, rfl⟩
          rw [hq] at hbq HT
          clear hq
          go_wp2_with fail
          refine (leaf_any q _).mono ?_
          rintro e w3 ⟨rfl, hb3⟩
          have HX3 := Lib.hid (HX2.out.next hb3)
          obtain ⟨y0, y1, ⟨d0, d1⟩, f0, f1⟩ := HX3.out.facts w.heap.size (by simp)
          have HN := Lib.hid (HX3.out.yesB (t := .leaf q) (v := tv q none 0 0) ⟨none, 0, rfl⟩ (a + 2) ((a : Int) + 2) (by omega) (.bool q) (.slice none 0 0))
          clear HX3 HX2 hb3 hbq
          unfold tv
          go_wp2
          refine bodyPost_ret (v := .tuple #[tv q none 0 0, .int .i64 ((a : Int) + 2)]) (by simp [results, Try.f61, go_sem, tv, d0, d1]) rfl ?_
          rw [HT.out]
          exact HN.out
        · rw [if_neg h2] at HT
          have HE := Lib.hid HT.out
          have hc := hT2 (a + 1) _ HX1.out.bel
          rw [take_last HV.out (by omega)] at hc
          simp only [Int.natCast_add, Int.natCast_one] at hc
          clear HT
          go_wp2_with fail
          refine hc.mono ?_
          rintro e w2 ⟨rfl, hb2⟩
          have HX2 := Lib.hid (HX1.out.next hb2)
          clear hc hb2 HX1
          obtain ⟨y0, y1, ⟨d0, d1⟩, f0, f1⟩ := HX2.out.facts w.heap.size (by simp)
          have HN := Lib.hid (HX2.out.noB)
          clear HX2
          go_wp2
          refine bodyPost_ret (v := .tuple #[tv false none 0 0, .int .i64 (-1)]) (by simp [results, Try.f61, go_sem, tv, d0, d1]) rfl ?_
          rw [HE.out]
          exact HN.out
      · rw [if_neg (by decide)] at HT
        have hc1 := IH.out (a + 1) w1 (by omega) HX1.out.bel
        simp only [Int.natCast_add, Int.natCast_one] at hc1
        go_wp2_with fail
        refine hc1.mono ?_
        rintro e w4 ⟨he, hb4⟩
        have hx4 := HX1.out.next hb4
        clear hb4 hc1 HX1
        cases hr : rb (M.bitAt l) n d (a + 1) with
        | none =>
          rw [hr] at he HT
          simp only at he HT
          subst he
          have HX4 := Lib.hid (hx4.boxed (.bool false) (.slice none 0 0))
          simp only [List.nil_append] at HX4
          have HE := Lib.hid HT.out
          clear hx4 hr IH HT hT2
          obtain ⟨y0, y1, ⟨d0, d1⟩, f0, f1⟩ := HX4.out.facts w.heap.size (by simp)
          have HN := Lib.hid (HX4.out.noB)
          clear HX4
          unfold tv
          go_wp2
          refine bodyPost_ret (v := .tuple #[tv false none 0 0, .int .i64 (-1)]) (by simp [results, Try.f61, go_sem, tv, d0, d1]) rfl ?_
          rw [HE.out]
          exact HN.out
        | some r =>
          obtain ⟨r1, r2⟩ := r
          rw [hr] at he HT
          simp only at he HT
          obtain ⟨v4, rfl, h4⟩ := he
          obtain ⟨o4, A4, n4, c4, rfl⟩ := h4.form
          have HX4 := Lib.hid (hx4.boxed (.bool o4) (.slice A4 n4 c4))
          simp only [List.nil_append] at HX4
          have H4 := Lib.hid (h4.up ((Below.refl _ w4).alloc (Nat.le_refl _) (.cells #[.bool o4, .slice A4 n4 c4] 24)))
          have hr2 := rb_lim HBL.out hr
          have hc2 := IH.out r2 _ hr2.2 HX4.out.bel
          clear hx4 hr h4 IH hT2
          unfold tv
          go_wp2_with fail
          refine hc2.mono ?_
          rintro e w6 ⟨he, hb6⟩
          have hx6 := HX4.out.next hb6
          have H6 := Lib.hid (H4.out.up hb6)
          clear hb6 hc2 HX4 H4
          cases hq : rb (M.bitAt l) n d r2 with
          | none =>
            rw [hq] at he HT
            simp only at he HT
            subst he
            have HX6 := Lib.hid (hx6.boxed (.bool false) (.slice none 0 0))
            simp only [List.cons_append, List.nil_append] at HX6
            have HE := Lib.hid HT.out
            clear hx6 hq HT H6
            obtain ⟨y0, y1, ⟨d0, d1⟩, f0, f1⟩ := HX6.out.facts w.heap.size (by simp)
            have HN := Lib.hid (HX6.out.noB)
            clear HX6
            unfold tv
            go_wp2
            refine bodyPost_ret (v := .tuple #[tv false none 0 0, .int .i64 (-1)]) (by simp [results, Try.f61, go_sem, tv, d0, d1]) rfl ?_
            rw [HE.out]
            exact HN.out
          | some q =>
            obtain ⟨u1, u2⟩ := q
            rw [hq] at he HT
            simp only at he HT
            obtain ⟨v6, rfl, h6⟩ := he
            obtain ⟨o6, A6, n6, c6, rfl⟩ := h6.form
            have HX6 := Lib.hid (hx6.boxed (.bool o6) (.slice A6 n6 c6))
            simp only [List.cons_append, List.nil_append] at HX6
            have hd6 : Below w6.heap.size w6 (w6.alloc (.cells #[.bool o6, .slice A6 n6 c6] 24)) := (Below.refl _ w6).alloc (Nat.le_refl _) _
            have I4 := Lib.hid (H6.out.up hd6)
            have I6 := Lib.hid (h6.up hd6)
            have hq2 := rb_lim HBL.out hq
            have f := HX6.out.at0
            simp only [List.mem_cons, List.not_mem_nil, or_false, forall_eq_or_imp, forall_eq] at f
            obtain ⟨⟨p0, q0, _⟩, p1, q1, _⟩ := f
            have hnb : Below (w6.alloc (.cells #[.bool o6, .slice A6 n6 c6] 24)).heap.size (w6.alloc (.cells #[.bool o6, .slice A6 n6 c6] 24)) ((w6.alloc (.cells #[.bool o6, .slice A6 n6 c6] 24)).alloc (.cells #[.bool o4, .slice A4 n4 c4, .bool o6, .slice A6 n6 c6] 24)) := (Below.refl _ _).alloc (Nat.le_refl _) _
            have HX7 := Lib.hid (HX6.out.next hnb)
            have hin7 := two_in hnb (heap_alloc_new (w6.alloc (.cells #[.bool o6, .slice A6 n6 c6] 24)) (.cells #[.bool o4, .slice A4 n4 c4, .bool o6, .slice A6 n6 c6] 24)) I4.out I6.out
            obtain ⟨y0, y1, ⟨_, _⟩, f0, f1⟩ := HX7.out.facts w.heap.size (by simp)
            obtain ⟨x0, x1, ⟨d2, d3⟩, f2, f3⟩ := HX6.out.facts w.heap.size (by simp)
            obtain ⟨x2, x3, ⟨d4, d5⟩, f4, f5⟩ := hx6.facts w.heap.size (by simp)
            have hsz : w.heap.size < w6.heap.size := (hx6.box w.heap.size (by simp)).2.1
            have HN := Lib.hid (HX7.out.yesB (t := .node r1 u1) (v := tv false (some ⟨w6.heap.size + 1, 0, none⟩) 2 2) (by simpa only [World.size_alloc] using hin7) u2 (u2 : Int) rfl (.bool false) (.slice (some ⟨w6.heap.size + 1, 0, none⟩) 2 2))
            rw [past_three w6 _ _ w.heap.size _ _ _ _ hsz] at HN
            clear hx6 hq h6 hd6 H6 I4 I6 HX6 HX7 hin7 hnb
            unfold tv
            go_wp2
            refine bodyPost_ret (v := .tuple #[tv false (some ⟨w6.heap.size + 1, 0, none⟩) 2 2, .int .i64 (u2 : Int)]) (by simp [results, Try.f61, go_sem, tv, d4, d5, hsz, Nat.lt_succ_of_lt hsz]) rfl ?_
            rw [HT.out]
            exact HN.out
    · have hna : n = a := by omega
      subst hna
      have HE : Hid (rb (M.bitAt l) n (d + 1) n = none) := by show _ = _; simp [rb]
      have hc := hT2 n _ HX.out.bel
      rw [take_end HV.out] at hc
      go_enter Try.func61, Try.ntmps61
      go_wp2_with fail
      refine hc.mono ?_
      rintro e w1 ⟨rfl, hb1⟩
      have HX1 := Lib.hid (HX.out.next hb1)
      clear hc hb1 HX
      obtain ⟨y0, y1, ⟨d0, d1⟩, f0, f1⟩ := HX1.out.facts w.heap.size (by simp)
      have HN := Lib.hid (HX1.out.noB)
      clear HX1
      go_wp2
      refine bodyPost_ret (v := .tuple #[tv false none 0 0, .int .i64 (-1)]) (by simp [results, Try.f61, go_sem, tv, d0, d1]) rfl ?_
      rw [HE.out]
      exact HN.out
end Go.Proofs.Ytkpefelakhbkhaa.I

namespace Go.Proofs.Ytkpefelakhbkhaa.I
open Go.RowKit

/-- A tree, a place and an error's number. -/
def Ans3 (r : Tr × Int × Int) (w : World) (e : Ending) (w' : World) : Prop := ∃ v, e = .returned (.tuple #[v, .int .i64 r.2.1, .int .i64 r.2.2]) ∧ InT w' w'.heap.size r.1 v ∧ Below w.heap.size w w'
/-- What Take answers. -/
def takeR (l : List Nat) (n a : Int) : Tr × Int × Int := if M.rightB l n = true ∧ 0 ≤ a ∧ a ≤ n then (match takeO (M.bitAt l) n.toNat a.toNat with
    | some q => (q.1, (q.2 : Int), 0)
    | none => (.leaf false, 0, 40)) else (.leaf false, 0, 2)
theorem XS.bad3 {w W : World} {bs : List (Nat × Value × Value)} {rs : List Nat} (g : Nat) (h : XS w bs (g :: rs) W) (z : Int) : Ans3 (.leaf false, 0, z) w (.returned (.tuple #[tv false none 0 0, .int .i64 0, .int .i64 z])) ((W.setCell ⟨g, 0, none⟩ (.bool false)).setCell ⟨g, 1, none⟩ (.slice none 0 0)) :=
  ⟨_, rfl, (h.fin (zero_in _ _) _ (by simp) _ _).1, (h.fin (zero_in _ _) _ (by simp) _ _).2⟩
theorem XS.good3 {w W : World} {bs : List (Nat × Value × Value)} {rs : List Nat} (g : Nat) (h : XS w bs (g :: rs) W) {t : Tr} {v : Value} (ht : InT W W.heap.size t v) (p : Int) (u1 u2 : Value) : Ans3 (t, p, 0) w (.returned (.tuple #[v, .int .i64 p, .int .i64 0])) ((W.setCell ⟨g, 0, none⟩ u1).setCell ⟨g, 1, none⟩ u2) :=
  ⟨_, rfl, (h.fin ht _ (by simp) _ _).1, (h.fin ht _ (by simp) _ _).2⟩
theorem takeO_ref (l : List Nat) (n a : Nat) : takeO (M.bitAt l) n a = match rb (M.bitAt l) n 33 a with
    | some q => if (fit q.1).isSome = true ∧ eqT q.1.norm q.1 = true then some q else none
    | none => none := by
  have hB := M.bitAt_lt l
  cases hr : rb (M.bitAt l) n 33 a with
  | none =>
    cases ht : takeO (M.bitAt l) n a with
    | none => rfl
    | some q => rw [((takeO_iff _ hB n a q.1 q.2).1 ht).1] at hr; cases hr
  | some q =>
    obtain ⟨t, p⟩ := q
    obtain ⟨_, _, _, hd⟩ := rb_bits _ _ hB _ _ _ _ hr
    simp only
    by_cases hc : (fit t).isSome = true ∧ eqT t.norm t = true
    · rw [if_pos hc]
      have : t.nodes ≤ 2047 := by
        have h1 := hc.1
        rw [fit_some] at h1
        simp at h1
        exact h1.2
      exact (takeO_iff _ hB n a t p).2 ⟨hr, (eqT_iff _ _).1 hc.2, this⟩
    · rw [if_neg hc]
      cases ht : takeO (M.bitAt l) n a with
      | none => rfl
      | some q =>
        obtain ⟨t', p'⟩ := q
        obtain ⟨h1, h2, h3⟩ := (takeO_iff _ hB n a t' p').1 ht
        rw [hr] at h1
        injection h1 with h1; injection h1 with e1 e2
        subst e1
        exact absurd ⟨by rw [fit_of (by omega) h3]; rfl, (eqT_iff _ _).2 h2⟩ hc

set_option maxRecDepth 100000 in
set_option maxHeartbeats 6400000 in
theorem rTake_tree (A : Option Addr) (c : Nat) (l : List Nat) (n a : Int) (w : World) (hr : BR w w.heap.size A l) (hl : l.length ≤ 140737488355328) (h0 : -9223372036854775808 ≤ n) (h1 : n < 9223372036854775808) :
    Calls Try.prog 35 #[.slice A l.length c, .int .i64 n, .int .i64 a] w (Ans3 (takeR l n a) w) := by
  have HX := Lib.hid ((XS.begin w).fresh (.bool false) (.slice none 0 0))
  simp only [List.nil_append] at HX
  have hcr := Go.Proofs.Ytkpefelakhbkhaa.rright_any A c l n (w.alloc (.cells #[.bool false, .slice none 0 0] 24)) _ (BR.up hr HX.out.bel) hl h0 h1
  have HR := Lib.hid hr
  have HNO : Hid (¬ (M.rightB l n = true ∧ 0 ≤ a ∧ a ≤ n) → takeR l n a = (.leaf false, 0, 2)) := fun h => if_neg h
  clear hr
  by_cases hR : M.rightB l n = true
  · rw [hR] at hcr
    obtain ⟨hn0, hV⟩ := M.rightB_true hR
    by_cases ha0 : a < 0
    · have HE := Lib.hid (HNO.out (fun h => by omega))
      clear HX HR HNO hV hR
      go_enter Try.func35, Try.ntmps35
      go_wp2_with fail
      refine hcr.mono ?_
      rintro e w1 ⟨rfl, rfl⟩
      go_wp2
      refine bodyPost_ret (v := .tuple #[tv false none 0 0, .int .i64 0, .int .i64 2]) (by simp [results, Try.f35, go_sem, tv]) rfl ?_
      rw [HE.out]
      exact ⟨_, rfl, zero_in _ _, (Below.refl _ w).alloc (Nat.le_refl _) _⟩
    · by_cases han : n < a
      · have HE := Lib.hid (HNO.out (fun h => by omega))
        clear HX HR HNO hV hR
        go_enter Try.func35, Try.ntmps35
        go_wp2_with fail
        refine hcr.mono ?_
        rintro e w1 ⟨rfl, rfl⟩
        go_wp2
        refine bodyPost_ret (v := .tuple #[tv false none 0 0, .int .i64 0, .int .i64 2]) (by simp [results, Try.f35, go_sem, tv]) rfl ?_
        rw [HE.out]
        exact ⟨_, rfl, zero_in _ _, (Below.refl _ w).alloc (Nat.le_refl _) _⟩
      · obtain ⟨N, rfl⟩ : ∃ N : Nat, n = (N : Int) := ⟨n.toNat, by omega⟩
        obtain ⟨a, rfl⟩ : ∃ q : Nat, a = (q : Int) := ⟨a.toNat, by omega⟩
        simp only [Int.toNat_natCast] at hV
        have hc := rtake_any A c l N hV hl 33 a (w.alloc (.cells #[.bool false, .slice none 0 0] 24)) (Nat.le_refl _) (by omega) (BR.up HR.out HX.out.bel)
        rw [show ((33 : Nat) : Int) - 1 = 32 from rfl] at hc
        have HT : Hid (takeR l (N : Int) (a : Int) = match takeO (M.bitAt l) N a with | some q => (q.1, (q.2 : Int), 0) | none => (.leaf false, 0, 40)) := by
          show _ = _
          unfold takeR
          rw [if_pos ⟨hR, by omega, by omega⟩]
          simp only [Int.toNat_natCast]
        rw [takeO_ref] at HT
        have HBL : Hid (∀ t p, rb (M.bitAt l) N 33 a = some (t, p) → p ≤ N) := fun t p h => (rb_lim (M.bitAt_lt l) h).2
        have hN : N ≤ 1125899906842624 := by have := hV.1; omega
        clear HNO hV hR h0 h1
        go_enter Try.func35, Try.ntmps35
        go_wp2_with fail
        refine hcr.mono ?_
        rintro e w1 ⟨rfl, rfl⟩
        clear hcr
        go_wp2_with fail
        refine hc.mono ?_
        rintro e w2 ⟨he, hb2⟩
        have hx2 := HX.out.next hb2
        clear hb2 hc HX HR
        cases hrb : rb (M.bitAt l) N 33 a with
        | none =>
          rw [hrb] at he HT
          simp only at he HT
          subst he
          have HX3 := Lib.hid (hx2.boxed (.bool false) (.slice none 0 0))
          simp only [List.nil_append] at HX3
          obtain ⟨y0, y1, ⟨d0, d1⟩, f0, f1⟩ := HX3.out.facts w.heap.size (by simp)
          have HN := Lib.hid (HX3.out.bad3 _ 40)
          clear hx2 hrb HX3 HBL
          unfold tv
          go_wp2
          refine bodyPost_ret (v := .tuple #[tv false none 0 0, .int .i64 0, .int .i64 40]) (by simp [results, Try.f35, go_sem, tv, d0, d1]) rfl ?_
          rw [HT.out]
          exact HN.out
        | some q =>
          obtain ⟨t, p⟩ := q
          have hp := HBL.out t p hrb
          rw [hrb] at he HT
          simp only at he HT
          obtain ⟨v2, rfl, h2⟩ := he
          obtain ⟨o2, A2, n2, c2, rfl⟩ := h2.form
          have HX3 := Lib.hid (hx2.boxed (.bool o2) (.slice A2 n2 c2))
          simp only [List.nil_append] at HX3
          have H3 := Lib.hid (h2.up ((Below.refl _ w2).alloc (Nat.le_refl _) (.cells #[.bool o2, .slice A2 n2 c2] 24)))
          have hcn := rnorm_arg (arg_of H3.out)
          clear hx2 hrb HBL h2
          unfold tv at hcn ⊢
          go_wp2_with fail
          refine hcn.mono ?_
          rintro e w4 ⟨v4, rfl, h4, hb4⟩
          obtain ⟨o4, A4, n4, c4, rfl⟩ := h4.form
          have hx4 := HX3.out.next hb4
          have hd4 : Below w4.heap.size w4 (w4.alloc (.cells #[.bool o4, .slice A4 n4 c4] 24)) := (Below.refl _ w4).alloc (Nat.le_refl _) _
          have HX5 := Lib.hid (hx4.boxed (.bool o4) (.slice A4 n4 c4))
          simp only [List.cons_append, List.nil_append] at HX5
          have H5 := Lib.hid ((H3.out.up hb4).up hd4)
          have G5 := Lib.hid (h4.up hd4)
          clear hcn HX3 H3 hb4 hx4 hd4 h4
          unfold tv
          cases hf : fit t with
          | none =>
            rw [hf] at HT G5
            simp only [Option.isSome_none, Bool.false_eq_true, false_and, if_false] at HT
            rw [show normR none = (.leaf false, 2) from rfl]
            obtain ⟨y0, y1, ⟨d0, d1⟩, f0, f1⟩ := HX5.out.facts w.heap.size (by simp)
            have HN := Lib.hid (HX5.out.bad3 _ 40)
            clear HX5 H5 G5 hf
            go_wp2
            refine bodyPost_ret (v := .tuple #[tv false none 0 0, .int .i64 0, .int .i64 40]) (by simp [results, Try.f35, go_sem, tv, d0, d1]) rfl ?_
            rw [HT.out]
            exact HN.out
          | some u =>
            obtain ⟨rfl, _, _⟩ := fit_eq hf
            rw [hf] at HT G5
            simp only [Option.isSome_some, true_and] at HT
            rw [show normR (some u) = (u.norm, 0) from rfl] at *
            simp only at G5
            have hce := equal_any _ _ _ _ _ G5.out H5.out
            unfold tv at hce
            have f := HX5.out.at0
            simp only [List.mem_cons, List.not_mem_nil, or_false, forall_eq_or_imp, forall_eq] at f
            obtain ⟨⟨p0, q0, _⟩, p1, q1, _⟩ := f
            obtain ⟨z, hz⟩ : ∃ z, eqT u.norm u = z := ⟨_, rfl⟩
            rw [hz] at hce HT
            clear hf hz G5
            go_wp2_with fail
            refine hce.mono ?_
            rintro e w6 ⟨rfl, hb6⟩
            have HX6 := Lib.hid (HX5.out.next hb6)
            have H6 := Lib.hid (H5.out.up hb6)
            clear hb6 HX5 H5 hce p0 q0 p1 q1
            obtain ⟨y0, y1, ⟨d0, d1⟩, f0, f1⟩ := HX6.out.facts w.heap.size (by simp)
            cases z with
            | true =>
              rw [if_pos rfl] at HT
              simp only at HT
              have f := HX6.out.at0
              simp only [List.mem_cons, List.not_mem_nil, or_false, forall_eq_or_imp, forall_eq] at f
              obtain ⟨⟨p0, q0, _⟩, p1, q1, _⟩ := f
              have HN := Lib.hid (HX6.out.good3 _ H6.out (p : Int) (.bool o2) (.slice A2 n2 c2))
              clear HX6 H6
              go_wp2
              refine bodyPost_ret (v := .tuple #[tv o2 A2 n2 c2, .int .i64 (p : Int), .int .i64 0]) (by simp [results, Try.f35, go_sem, tv, d0, d1]) rfl ?_
              rw [HT.out]
              exact HN.out
            | false =>
              rw [if_neg (by decide)] at HT
              simp only at HT
              have HN := Lib.hid (HX6.out.bad3 _ 40)
              clear HX6 H6
              go_wp2
              refine bodyPost_ret (v := .tuple #[tv false none 0 0, .int .i64 0, .int .i64 40]) (by simp [results, Try.f35, go_sem, tv, d0, d1]) rfl ?_
              rw [HT.out]
              exact HN.out
  · have hRf : M.rightB l n = false := by simpa using hR
    have HE := Lib.hid (HNO.out (fun h => hR h.1))
    rw [hRf] at hcr
    clear HX HR HNO hR hRf
    go_enter Try.func35, Try.ntmps35
    go_wp2_with fail
    refine hcr.mono ?_
    rintro e w1 ⟨rfl, rfl⟩
    go_wp2
    refine bodyPost_ret (v := .tuple #[tv false none 0 0, .int .i64 0, .int .i64 2]) (by simp [results, Try.f35, go_sem, tv]) rfl ?_
    rw [HE.out]
    exact ⟨_, rfl, zero_in _ _, (Below.refl _ w).alloc (Nat.le_refl _) _⟩
end Go.Proofs.Ytkpefelakhbkhaa.I
