/-
  The program's function that tells a bit.
  The program's takeBits.
  The program's Take.
-/
import Derived.Test.YtkpefelakhbkhaaZRTake
import Derived.Test.YtkpefelakhbkhaaITText
namespace Go.Proofs.Ytkpefelakhbkhaa.I
open Go.RowKit

/-- What the function that tells a bit has caught: where reading ends, the bytes, how many bits they are. -/
structure Env (w : World) (P Q R : Nat) (A : Option Addr) (c : Nat) (l : List Nat) (n last : Nat) : Prop where
  e0 : w.cell? ⟨P, 0, none⟩ = some (.int .i64 (last : Int))
  e1 : w.cell? ⟨Q, 0, none⟩ = some (.slice A l.length c)
  e2 : w.cell? ⟨R, 0, none⟩ = some (.int .i64 (n : Int))
  l0 : P < w.heap.size
  l1 : Q < w.heap.size
  l2 : R < w.heap.size
  row : BR w w.heap.size A l
theorem Env.up {w w' : World} {P Q R : Nat} {A : Option Addr} {c : Nat} {l : List Nat} {n last : Nat} (h : Env w P Q R A c l n last) (hb : Below w.heap.size w w') : Env w' P Q R A c l n last :=
  ⟨(hb.cell (p := ⟨P, 0, none⟩) h.l0).trans h.e0, (hb.cell (p := ⟨Q, 0, none⟩) h.l1).trans h.e1, (hb.cell (p := ⟨R, 0, none⟩) h.l2).trans h.e2, Nat.lt_of_lt_of_le h.l0 hb.size, Nat.lt_of_lt_of_le h.l1 hb.size, Nat.lt_of_lt_of_le h.l2 hb.size, BR.up h.row hb⟩
def bitB (l : List Nat) (last a : Nat) : Bool := decide (a < last) && decide (M.bitAt l a = 1)
set_option maxRecDepth 100000 in
set_option maxHeartbeats 1600000 in
theorem bit_any' (P Q R : Nat) (A : Option Addr) (c : Nat) (l : List Nat) (n last a : Nat) (w : World) (hE : Env w P Q R A c l n last) (hV : M.Valid l n) (hl : l.length ≤ 140737488355328) (hln : last ≤ n) (ha : a ≤ n) :
    Calls Try.prog 58 #[.int .i64 (a : Int), .pointer (some ⟨P, 0, none⟩), .pointer (some ⟨Q, 0, none⟩), .pointer (some ⟨R, 0, none⟩)] w fun e w' => e = .returned (.tuple #[.bool (bitB l last a), .bool (decide (a < last))]) ∧ Below w.heap.size w w' := by
  have hn : n ≤ 1125899906842624 := by have := hV.1; omega
  obtain ⟨e0, e1, e2, _, _, _, row⟩ := hE
  by_cases h : a < last
  · have hc := take_any A c l (n : Int) (a : Int) 1 w row hl (by omega) (by omega)
    rw [take_in hV (by omega)] at hc
    have hb := M.bitAt_lt l a
    have HE : Hid (bitB l last a = (((M.bitAt l a : Nat) : Int) == 1)) := by
      show _ = _
      unfold bitB
      rw [decide_eq_true h, Bool.true_and, Bool.eq_iff_iff, decide_eq_true_iff, beq_iff_eq]
      omega
    have HD : Hid (decide (a < last) = true) := decide_eq_true h
    obtain ⟨B, hB⟩ : ∃ B, M.bitAt l a = B := ⟨_, rfl⟩
    rw [hB] at hc HE hb
    clear hB row hV
    go_enter Try.func58, Try.ntmps58
    go_wp2_with fail
    refine hc.mono ?_
    rintro e w1 ⟨rfl, hb1⟩
    have HB1 := Lib.hid hb1
    clear hc hb1 e0 e1 e2
    go_wp2
    go_ret2
    exact ⟨by rw [HE.out, HD.out]; rfl, HB1.out⟩
  · have HE : Hid (bitB l last a = false) := by show _ = _; unfold bitB; rw [decide_eq_false h]; rfl
    have HD : Hid (decide (a < last) = false) := decide_eq_false h
    clear row hV
    go_enter Try.func58, Try.ntmps58
    go_wp2
    go_ret2
    exact ⟨by rw [HE.out, HD.out]; rfl, Below.refl _ _⟩
end Go.Proofs.Ytkpefelakhbkhaa.I

namespace Go.Proofs.Ytkpefelakhbkhaa.I
open Go.RowKit

theorem tb_lim {B : Nat → Nat} {n d a : Nat} (hB : ∀ i, B i < 2) {t : Tr} {p : Nat} (h : tb B n d a = some (t, p)) : a < p ∧ p ≤ n := rb_lim hB ((tb_rb B n d a t p).1 h).1

set_option maxRecDepth 100000 in
set_option maxHeartbeats 6400000 in
theorem takeBits_any (P Q R : Nat) (A : Option Addr) (c : Nat) (l : List Nat) (n last : Nat) (hV : M.Valid l n) (hl : l.length ≤ 140737488355328) (hln : last ≤ n) (d : Nat) : ∀ (a : Nat) (w : World), d ≤ 33 → a ≤ last → Env w P Q R A c l n last → Calls Try.prog 60 #[Value.func (.func 58) #[] #[.pointer (some ⟨P, 0, none⟩), .pointer (some ⟨Q, 0, none⟩), .pointer (some ⟨R, 0, none⟩)], .int .i64 (a : Int), .int .i64 (33 - (d : Int))] w (TakeR (tb (M.bitAt l) last d a) w) := by
  have hn : n ≤ 1125899906842624 := by have := hV.1; omega
  have HT0 : Hid (∀ (a : Nat) (W : World), a ≤ last → Env W P Q R A c l n last → Calls Try.prog 58 #[.int .i64 (a : Int), .pointer (some ⟨P, 0, none⟩), .pointer (some ⟨Q, 0, none⟩), .pointer (some ⟨R, 0, none⟩)] W fun e w' => e = .returned (.tuple #[.bool (bitB l last a), .bool (decide (a < last))]) ∧ Below W.heap.size W w') := fun a W ha hW => bit_any' P Q R A c l n last a W hW hV hl hln (by omega)
  have HBL : Hid (∀ i, M.bitAt l i < 2) := M.bitAt_lt l
  clear hV
  induction d with
  | zero =>
    intro a w _ ha hE
    have HE : Hid (tb (M.bitAt l) last 0 a = none) := rfl
    have HX := Lib.hid ((XS.begin w).fresh (.bool false) (.slice none 0 0))
    simp only [List.nil_append] at HX
    have hc := HT0.out a _ ha (hE.up HX.out.bel)
    simp only [Int.natCast_zero, Int.sub_zero]
    obtain ⟨z1, hz1⟩ : ∃ z, bitB l last a = z := ⟨_, rfl⟩
    obtain ⟨z2, hz2⟩ : ∃ z, decide (a < last) = z := ⟨_, rfl⟩
    rw [hz1, hz2] at hc
    clear HT0 hE hz1 hz2
    go_enter Try.func60, Try.ntmps60
    go_wp2_with fail
    refine hc.mono ?_
    rintro e w1 ⟨rfl, hb1⟩
    have HX1 := Lib.hid (HX.out.next hb1)
    clear hc hb1 HX
    obtain ⟨y0, y1, ⟨d0, d1⟩, f0, f1⟩ := HX1.out.facts w.heap.size (by simp)
    have HN := Lib.hid (HX1.out.none)
    clear HX1
    cases z2 with
    | false =>
      go_wp2
      refine bodyPost_ret (v := .tuple #[tv false none 0 0, .int .i64 0, .bool false]) (by simp [results, Try.f60, go_sem, tv, d0, d1]) rfl ?_
      rw [HE.out]
      exact HN.out
    | true =>
      go_wp2
      refine bodyPost_ret (v := .tuple #[tv false none 0 0, .int .i64 0, .bool false]) (by simp [results, Try.f60, go_sem, tv, d0, d1]) rfl ?_
      rw [HE.out]
      exact HN.out
  | succ d ih =>
    intro a w hd ha hE
    have HX := Lib.hid ((XS.begin w).fresh (.bool false) (.slice none 0 0))
    simp only [List.nil_append] at HX
    obtain ⟨D, hD⟩ : ∃ D : Int, (33 : Int) - ((d + 1 : Nat) : Int) = D := ⟨_, rfl⟩
    have hD1 : (33 : Int) - (d : Int) = D + 1 := by omega
    have hD2 : 0 ≤ D := by omega
    have hD3 : D ≤ 32 := by omega
    have IH : Hid (∀ a W, a ≤ last → Below w.heap.size w W → Calls Try.prog 60 #[Value.func (.func 58) #[] #[.pointer (some ⟨P, 0, none⟩), .pointer (some ⟨Q, 0, none⟩), .pointer (some ⟨R, 0, none⟩)], .int .i64 (a : Int), .int .i64 (D + 1)] W (TakeR (tb (M.bitAt l) last d a) W)) := fun a W h hb => by rw [← hD1]; exact ih a W (by omega) h (hE.up hb)
    have HT2 : Hid (∀ (a : Nat) (W : World), a ≤ last → Below w.heap.size w W → Calls Try.prog 58 #[.int .i64 (a : Int), .pointer (some ⟨P, 0, none⟩), .pointer (some ⟨Q, 0, none⟩), .pointer (some ⟨R, 0, none⟩)] W fun e w' => e = .returned (.tuple #[.bool (bitB l last a), .bool (decide (a < last))]) ∧ Below W.heap.size W w') := fun a W h hb => HT0.out a W h (hE.up hb)
    rw [hD]
    clear hD hD1 hE ih HT0
    have hc := HT2.out a _ ha HX.out.bel
    by_cases hlt : a < last
    · have HT : Hid (tb (M.bitAt l) last (d + 1) a = if M.bitAt l a = 0 then (if a + 1 < last then some (.leaf (decide (M.bitAt l (a + 1) = 1)), a + 2) else none) else
          (match tb (M.bitAt l) last d (a + 1) with
            | none => none
            | some r => (match tb (M.bitAt l) last d r.2 with
              | none => none
              | some q => if alikeT r.1 q.1 = true then none else some (.node r.1 q.1, q.2)))) := by show _ = _; rw [tb, if_pos hlt]; rfl
      have hbt := HBL.out a
      have hbB : bitB l last a = decide (M.bitAt l a = 1) := by unfold bitB; rw [decide_eq_true hlt, Bool.true_and]
      rw [hbB, decide_eq_true hlt] at hc
      obtain ⟨B0, hB0⟩ : ∃ B0, M.bitAt l a = B0 := ⟨_, rfl⟩
      rw [hB0] at hc HT hbt
      clear hB0 hbB
      rcases (by omega : B0 = 0 ∨ B0 = 1) with rfl | rfl
      · rw [show decide (0 = 1) = false from rfl] at hc
        rw [if_pos rfl] at HT
        go_enter Try.func60, Try.ntmps60
        go_wp2_with fail
        refine hc.mono ?_
        rintro e w1 ⟨rfl, hb1⟩
        have HX1 := Lib.hid (HX.out.next hb1)
        clear hc hb1 HX
        have hc := HT2.out (a + 1) _ (by omega) HX1.out.bel
        simp only [Int.natCast_add, Int.natCast_one] at hc
        by_cases h2 : a + 1 < last
        · rw [if_pos h2] at HT
          have hbB : bitB l last (a + 1) = decide (M.bitAt l (a + 1) = 1) := by unfold bitB; rw [decide_eq_true h2, Bool.true_and]
          rw [hbB, decide_eq_true h2] at hc
          obtain ⟨q, hq⟩ : ∃ q, decide (M.bitAt l (a + 1) = 1) = q := ⟨_, rfl⟩
          rw [hq] at hc HT
          clear hq hbB
          go_wp2_with fail
          refine hc.mono ?_
          rintro e w2 ⟨rfl, hb2⟩
          have HX2 := Lib.hid (HX1.out.next hb2)
          clear hc hb2 HX1
          obtain ⟨y0, y1, ⟨d0, d1⟩, f0, f1⟩ := HX2.out.facts w.heap.size (by simp)
          have HN := Lib.hid (HX2.out.some (t := .leaf q) (v := tv q none 0 0) ⟨none, 0, rfl⟩ (a + 2) ((a : Int) + 2) (by omega) (.bool q) (.slice none 0 0))
          clear HX2 IH HT2
          go_wp2
          refine bodyPost_ret (v := .tuple #[tv q none 0 0, .int .i64 ((a : Int) + 2), .bool true]) (by simp [results, Try.f60, go_sem, tv, d0, d1]) rfl ?_
          rw [HT.out]
          exact HN.out
        · rw [if_neg h2] at HT
          have HE := Lib.hid HT.out
          rw [decide_eq_false h2] at hc
          obtain ⟨q, hq⟩ : ∃ q, bitB l last (a + 1) = q := ⟨_, rfl⟩
          rw [hq] at hc
          clear hq HT
          go_wp2_with fail
          refine hc.mono ?_
          rintro e w2 ⟨rfl, hb2⟩
          have HX2 := Lib.hid (HX1.out.next hb2)
          clear hc hb2 HX1 IH HT2
          obtain ⟨y0, y1, ⟨d0, d1⟩, f0, f1⟩ := HX2.out.facts w.heap.size (by simp)
          have HN := Lib.hid (HX2.out.none)
          clear HX2
          go_wp2
          refine bodyPost_ret (v := .tuple #[tv false none 0 0, .int .i64 0, .bool false]) (by simp [results, Try.f60, go_sem, tv, d0, d1]) rfl ?_
          rw [HE.out]
          exact HN.out
      · rw [show decide (1 = 1) = true from rfl] at hc
        rw [if_neg (by decide)] at HT
        go_enter Try.func60, Try.ntmps60
        go_wp2_with fail
        refine hc.mono ?_
        rintro e w1 ⟨rfl, hb1⟩
        have HX1 := Lib.hid (HX.out.next hb1)
        clear hc hb1 HX
        have hc1 := IH.out (a + 1) w1 (by omega) HX1.out.bel
        simp only [Int.natCast_add, Int.natCast_one] at hc1
        go_wp2_with fail
        refine hc1.mono ?_
        rintro e w4 ⟨he, hb4⟩
        have hx4 := HX1.out.next hb4
        clear hb4 hc1 HX1 HT2
        cases hr : tb (M.bitAt l) last d (a + 1) with
        | none =>
          rw [hr] at he HT
          simp only at he HT
          subst he
          have HX4 := Lib.hid (hx4.boxed (.bool false) (.slice none 0 0))
          simp only [List.nil_append] at HX4
          have HE := Lib.hid HT.out
          clear hx4 hr IH HT
          obtain ⟨y0, y1, ⟨d0, d1⟩, f0, f1⟩ := HX4.out.facts w.heap.size (by simp)
          have HN := Lib.hid (HX4.out.none)
          clear HX4
          unfold tv
          go_wp2
          refine bodyPost_ret (v := .tuple #[tv false none 0 0, .int .i64 0, .bool false]) (by simp [results, Try.f60, go_sem, tv, d0, d1]) rfl ?_
          rw [HE.out]
          exact HN.out
        | some r =>
          obtain ⟨r1, r2⟩ := r
          rw [hr] at he HT
          simp only at he HT
          obtain ⟨v4, rfl, h4⟩ := he
          obtain ⟨o4, A4, n4, c4, rfl⟩ := h4.form
          have HX4 := Lib.hid (hx4.boxed (.bool o4) (.slice A4 n4 c4))
          simp only [List.nil_append] at HX4
          have H4 := Lib.hid (h4.up ((Below.refl _ w4).alloc (Nat.le_refl _) (.cells #[.bool o4, .slice A4 n4 c4] 24)))
          have hr2 := tb_lim HBL.out hr
          have hc2 := IH.out r2 _ hr2.2 HX4.out.bel
          clear hx4 hr h4 IH
          unfold tv
          go_wp2_with fail
          refine hc2.mono ?_
          rintro e w6 ⟨he, hb6⟩
          have hx6 := HX4.out.next hb6
          have H6 := Lib.hid (H4.out.up hb6)
          clear hb6 hc2 HX4 H4
          cases hq : tb (M.bitAt l) last d r2 with
          | none =>
            rw [hq] at he HT
            simp only at he HT
            subst he
            have HX6 := Lib.hid (hx6.boxed (.bool false) (.slice none 0 0))
            simp only [List.cons_append, List.nil_append] at HX6
            have HE := Lib.hid HT.out
            clear hx6 hq HT H6
            obtain ⟨y0, y1, ⟨d0, d1⟩, f0, f1⟩ := HX6.out.facts w.heap.size (by simp)
            have HN := Lib.hid (HX6.out.none)
            clear HX6
            unfold tv
            go_wp2
            refine bodyPost_ret (v := .tuple #[tv false none 0 0, .int .i64 0, .bool false]) (by simp [results, Try.f60, go_sem, tv, d0, d1]) rfl ?_
            rw [HE.out]
            exact HN.out
          | some q =>
            obtain ⟨u1, u2⟩ := q
            rw [hq] at he HT
            simp only at he HT
            obtain ⟨v6, rfl, h6⟩ := he
            obtain ⟨o6, A6, n6, c6, rfl⟩ := h6.form
            have HX6 := Lib.hid (hx6.boxed (.bool o6) (.slice A6 n6 c6))
            simp only [List.cons_append, List.nil_append] at HX6
            have hd6 : Below w6.heap.size w6 (w6.alloc (.cells #[.bool o6, .slice A6 n6 c6] 24)) := (Below.refl _ w6).alloc (Nat.le_refl _) _
            have I4 := Lib.hid (H6.out.up hd6)
            have I6 := Lib.hid (h6.up hd6)
            have hq2 := tb_lim HBL.out hq
            have hca := alike_any o4 A4 n4 c4 o6 A6 n6 c6 (w6.alloc (.cells #[.bool o6, .slice A6 n6 c6] 24))
            have HAL : Hid (alikeB o4 n4 o6 n6 = alikeT r1 u1) := alike_eq I4.out I6.out
            have hcp := fun W (h : Below (w6.alloc (.cells #[.bool o6, .slice A6 n6 c6] 24)).heap.size (w6.alloc (.cells #[.bool o6, .slice A6 n6 c6] 24)) W) => pair_any r1 u1 _ _ W (I4.out.up h) (I6.out.up h)
            have f := HX6.out.at0
            simp only [List.mem_cons, List.not_mem_nil, or_false, forall_eq_or_imp, forall_eq] at f
            obtain ⟨⟨p0, q0, _⟩, p1, q1, _⟩ := f
            clear hx6 hq h6 hd6 H6 I4 I6
            unfold tv at hca hcp ⊢
            go_wp2_with fail
            refine hca.mono ?_
            rintro e w8 ⟨rfl, hb8⟩
            have hcp := hcp w8 hb8
            have HX8 := Lib.hid (HX6.out.next hb8)
            clear hb8 HX6 p0 q0 p1 q1 hca
            rw [HAL.out]
            clear HAL
            cases hal : alikeT r1 u1 with
            | true =>
              rw [hal] at HT
              have HE : Hid (tb (M.bitAt l) last (d + 1) a = none) := by show _ = _; rw [HT.out]; simp
              clear HT hal hcp
              obtain ⟨y0, y1, ⟨d0, d1⟩, f0, f1⟩ := HX8.out.facts w.heap.size (by simp)
              have HN := Lib.hid (HX8.out.none)
              clear HX8
              go_wp2
              refine bodyPost_ret (v := .tuple #[tv false none 0 0, .int .i64 0, .bool false]) (by simp [results, Try.f60, go_sem, tv, d0, d1]) rfl ?_
              rw [HE.out]
              exact HN.out
            | false =>
              rw [hal] at HT
              have HE : Hid (tb (M.bitAt l) last (d + 1) a = some (.node r1 u1, u2)) := by show _ = _; rw [HT.out]; simp
              clear HT hal
              have f := HX8.out.at0
              simp only [List.mem_cons, List.not_mem_nil, or_false, forall_eq_or_imp, forall_eq] at f
              obtain ⟨⟨p0, q0, _⟩, p1, q1, _⟩ := f
              go_wp2_with fail
              refine hcp.mono ?_
              rintro e w9 ⟨v9, rfl, h9, hb9⟩
              obtain ⟨o9, A9, n9, c9, rfl⟩ := h9.form
              have HX9 := Lib.hid (HX8.out.next hb9)
              obtain ⟨y0, y1, ⟨d0, d1⟩, f0, f1⟩ := HX9.out.facts w.heap.size (by simp)
              have HN := Lib.hid (HX9.out.some h9 u2 (u2 : Int) rfl (.bool o9) (.slice A9 n9 c9))
              clear HX9 HX8 hb9 h9 hcp p0 q0 p1 q1
              unfold tv
              go_wp2
              refine bodyPost_ret (v := .tuple #[tv o9 A9 n9 c9, .int .i64 (u2 : Int), .bool true]) (by simp [results, Try.f60, go_sem, tv, d0, d1]) rfl ?_
              rw [HE.out]
              exact HN.out
    · have HE : Hid (tb (M.bitAt l) last (d + 1) a = none) := by show _ = _; rw [tb, if_neg hlt]
      rw [decide_eq_false hlt] at hc
      obtain ⟨q, hq⟩ : ∃ q, bitB l last a = q := ⟨_, rfl⟩
      rw [hq] at hc
      clear hq
      go_enter Try.func60, Try.ntmps60
      go_wp2_with fail
      refine hc.mono ?_
      rintro e w1 ⟨rfl, hb1⟩
      have HX1 := Lib.hid (HX.out.next hb1)
      clear hc hb1 HX IH HT2
      obtain ⟨y0, y1, ⟨d0, d1⟩, f0, f1⟩ := HX1.out.facts w.heap.size (by simp)
      have HN := Lib.hid (HX1.out.none)
      clear HX1
      go_wp2
      refine bodyPost_ret (v := .tuple #[tv false none 0 0, .int .i64 0, .bool false]) (by simp [results, Try.f60, go_sem, tv, d0, d1]) rfl ?_
      rw [HE.out]
      exact HN.out
end Go.Proofs.Ytkpefelakhbkhaa.I

namespace Go.Proofs.Ytkpefelakhbkhaa.I
open Go.RowKit

/-- The first boxes of Take: the bytes, how many bits they are, the result. -/
def TW (w : World) (A : Option Addr) (m c : Nat) (n : Int) : World := ((w.alloc (.cells #[.slice A m c] 40)).alloc (.cells #[.int .i64 n] 3)).alloc (.cells #[.bool false, .slice none 0 0] 24)
theorem TW.start (w : World) (A : Option Addr) (m c : Nat) (n : Int) : XS w [] [w.heap.size + 1 + 1] (TW w A m c n) := by
  have h := ((XS.begin w).next (((Below.refl _ w).alloc (Nat.le_refl _) (.cells #[.slice A m c] 40)).alloc (by simp) (.cells #[.int .i64 n] 3))).fresh (.bool false) (.slice none 0 0)
  simp only [List.nil_append, World.size_alloc] at h
  exact h
set_option maxRecDepth 100000 in
set_option maxHeartbeats 6400000 in
theorem take_tree (A : Option Addr) (c : Nat) (l : List Nat) (n a : Int) (w : World) (hr : BR w w.heap.size A l) (hl : l.length ≤ 140737488355328) (h0 : -9223372036854775808 ≤ n) (h1 : n < 9223372036854775808) :
    Calls Try.prog 34 #[.slice A l.length c, .int .i64 n, .int .i64 a] w (Ans3 (takeR l n a) w) := by
  have HX := Lib.hid (TW.start w A l.length c n)
  have hcr := Go.Proofs.Ytkpefelakhbkhaa.right_any A c l n (TW w A l.length c n) _ (BR.up hr HX.out.bel) hl h0 h1
  have HR := Lib.hid hr
  have HNO : Hid (¬ (M.rightB l n = true ∧ 0 ≤ a ∧ a ≤ n) → takeR l n a = (.leaf false, 0, 2)) := fun h => if_neg h
  have HBW : Hid (Below w.heap.size w (TW w A l.length c n)) := HX.out.bel
  unfold TW at hcr HX HBW
  clear hr
  by_cases hR : M.rightB l n = true
  · rw [hR] at hcr
    obtain ⟨hn0, hV⟩ := M.rightB_true hR
    by_cases ha0 : a < 0
    · have HE := Lib.hid (HNO.out (fun h => by omega))
      clear HX HR HNO hV hR
      go_enter Try.func34, Try.ntmps34
      go_wp2_with fail
      refine hcr.mono ?_
      rintro e w1 ⟨rfl, rfl⟩
      go_wp2
      refine bodyPost_ret (v := .tuple #[tv false none 0 0, .int .i64 0, .int .i64 2]) (by simp [results, Try.f34, go_sem, tv]) rfl ?_
      rw [HE.out]
      exact ⟨_, rfl, zero_in _ _, HBW.out⟩
    · by_cases han : n < a
      · have HE := Lib.hid (HNO.out (fun h => by omega))
        clear HX HR HNO hV hR
        go_enter Try.func34, Try.ntmps34
        go_wp2_with fail
        refine hcr.mono ?_
        rintro e w1 ⟨rfl, rfl⟩
        go_wp2
        refine bodyPost_ret (v := .tuple #[tv false none 0 0, .int .i64 0, .int .i64 2]) (by simp [results, Try.f34, go_sem, tv]) rfl ?_
        rw [HE.out]
        exact ⟨_, rfl, zero_in _ _, HBW.out⟩
      · obtain ⟨N, rfl⟩ : ∃ N : Nat, n = (N : Int) := ⟨n.toNat, by omega⟩
        obtain ⟨a, rfl⟩ : ∃ q : Nat, a = (q : Int) := ⟨a.toNat, by omega⟩
        simp only [Int.toNat_natCast] at hV
        have hN : N ≤ 1125899906842624 := by have := hV.1; omega
        obtain ⟨last, hlast⟩ : ∃ last, min N (a + 3071) = last := ⟨_, rfl⟩
        have hmin : (if (a : Int) + 3071 < (N : Int) then (a : Int) + 3071 else (N : Int)) = (last : Int) := by rw [← hlast]; split <;> omega
        have hmin2 : (if a + 3071 < N then (a : Int) + 3071 else (N : Int)) = (last : Int) := by rw [← hlast]; split <;> omega
        have hla : a ≤ last := by omega
        have hlN : last ≤ N := by omega
        have HT : Hid (takeR l (N : Int) (a : Int) = match tb (M.bitAt l) last 33 a with | some q => (q.1, (q.2 : Int), 0) | none => (.leaf false, 0, 40)) := by
          show _ = _
          unfold takeR takeO
          rw [if_pos ⟨hR, by omega, by omega⟩]
          simp only [Int.toNat_natCast, hlast]
          cases tb (M.bitAt l) last 33 a <;> rfl
        obtain ⟨W0, hW0⟩ : ∃ W0, ((w.alloc (.cells #[.slice A l.length c] 40)).alloc (.cells #[.int .i64 (N : Int)] 3)).alloc (.cells #[.bool false, .slice none 0 0] 24) = W0 := ⟨_, rfl⟩
        have hs0 : W0.heap.size = w.heap.size + 1 + 1 + 1 := by rw [← hW0]; simp
        have hb1 : Below W0.heap.size W0 (W0.alloc (.cells #[.int .i64 (last : Int)] 3)) := (Below.refl _ _).alloc (Nat.le_refl _) _
        have q0 : (W0.alloc (.cells #[.int .i64 (last : Int)] 3)).cell? ⟨w.heap.size + 1 + 1 + 1, 0, none⟩ = some (.int .i64 (last : Int)) := by rw [← hs0]; simp [go_sem]
        have q1 : W0.cell? ⟨w.heap.size, 0, none⟩ = some (.slice A l.length c) := by rw [← hW0]; simp [go_sem]
        have q2 : W0.cell? ⟨w.heap.size + 1, 0, none⟩ = some (.int .i64 (N : Int)) := by rw [← hW0]; simp [go_sem]
        rw [hW0] at HX HBW
        have henv : Env (W0.alloc (.cells #[.int .i64 (last : Int)] 3)) (w.heap.size + 1 + 1 + 1) w.heap.size (w.heap.size + 1) A c l N last :=
          ⟨q0, (hb1.cell (p := ⟨w.heap.size, 0, none⟩) (by rw [hs0]; show w.heap.size < _; omega)).trans q1, (hb1.cell (p := ⟨w.heap.size + 1, 0, none⟩) (by rw [hs0]; show w.heap.size + 1 < _; omega)).trans q2, by rw [World.size_alloc, hs0]; omega, by rw [World.size_alloc, hs0]; omega, by rw [World.size_alloc, hs0]; omega, BR.up (BR.up HR.out HBW.out) hb1⟩
        have hc := takeBits_any (w.heap.size + 1 + 1 + 1) w.heap.size (w.heap.size + 1) A c l N last hV hl hlN 33 a _ (Nat.le_refl _) hla henv
        rw [show (33 : Int) - ((33 : Nat) : Int) = 0 from rfl] at hc
        have HX1 := Lib.hid (HX.out.next hb1)
        have HLM : Hid (∀ t p, tb (M.bitAt l) last 33 a = some (t, p) → p ≤ last) := fun t p h => (tb_lim (M.bitAt_lt l) h).2
        rw [← hW0] at hc HX1 q1 q2
        clear HNO hV hR h0 h1 henv q0 hb1 hs0 hlast HX HBW HR hW0
        go_enter Try.func34, Try.ntmps34
        go_wp2_with fail
        refine hcr.mono ?_
        rintro e w1 ⟨rfl, rfl⟩
        clear hcr
        go_wp2_with fail
        refine hc.mono ?_
        rintro e w2 ⟨he, hb2⟩
        have hx2 := HX1.out.next hb2
        clear hb2 hc HX1 q1 q2
        cases hrb : tb (M.bitAt l) last 33 a with
        | none =>
          rw [hrb] at he HT
          simp only at he HT
          subst he
          have HX3 := Lib.hid (hx2.boxed (.bool false) (.slice none 0 0))
          simp only [List.nil_append] at HX3
          obtain ⟨y0, y1, ⟨d0, d1⟩, f0, f1⟩ := HX3.out.facts (w.heap.size + 1 + 1) (by simp)
          have HN := Lib.hid (HX3.out.bad3 _ 40)
          clear hx2 hrb HX3 HLM
          unfold tv
          go_wp2
          refine bodyPost_ret (v := .tuple #[tv false none 0 0, .int .i64 0, .int .i64 40]) (by simp [results, Try.f34, go_sem, tv, d0, d1]) rfl ?_
          rw [HT.out]
          exact HN.out
        | some q =>
          obtain ⟨t, p⟩ := q
          have hp := HLM.out t p hrb
          rw [hrb] at he HT
          simp only at he HT
          obtain ⟨v2, rfl, h2⟩ := he
          obtain ⟨o2, A2, n2, c2, rfl⟩ := h2.form
          have HX3 := Lib.hid (hx2.boxed (.bool o2) (.slice A2 n2 c2))
          simp only [List.nil_append] at HX3
          have H3 := Lib.hid (h2.up ((Below.refl _ w2).alloc (Nat.le_refl _) (.cells #[.bool o2, .slice A2 n2 c2] 24)))
          obtain ⟨y0, y1, ⟨d0, d1⟩, f0, f1⟩ := HX3.out.facts (w.heap.size + 1 + 1) (by simp)
          have HN := Lib.hid (HX3.out.good3 _ H3.out (p : Int) (.bool o2) (.slice A2 n2 c2))
          clear hx2 hrb HX3 HLM h2 H3
          unfold tv
          go_wp2
          refine bodyPost_ret (v := .tuple #[tv o2 A2 n2 c2, .int .i64 (p : Int), .int .i64 0]) (by simp [results, Try.f34, go_sem, tv, d0, d1]) rfl ?_
          rw [HT.out]
          exact HN.out
  · have hRf : M.rightB l n = false := by simpa using hR
    have HE := Lib.hid (HNO.out (fun h => hR h.1))
    rw [hRf] at hcr
    clear HX HR HNO hR hRf
    go_enter Try.func34, Try.ntmps34
    go_wp2_with fail
    refine hcr.mono ?_
    rintro e w1 ⟨rfl, rfl⟩
    go_wp2
    refine bodyPost_ret (v := .tuple #[tv false none 0 0, .int .i64 0, .int .i64 2]) (by simp [results, Try.f34, go_sem, tv]) rfl ?_
    rw [HE.out]
    exact ⟨_, rfl, zero_in _ _, HBW.out⟩
end Go.Proofs.Ytkpefelakhbkhaa.I
