/-
  The program's stands, takeText, Parse.
-/
import Derived.Test.YtkpefelakhbkhaaITMath
import Derived.Test.YtkpefelakhbkhaaIOps
namespace Go.Proofs.Ytkpefelakhbkhaa.I
open Go.RowKit

def sb (s : ByteArray) (a x : Nat) : Bool := decide ((byt s)[a]? = some x)
set_option maxHeartbeats 800000 in
theorem stands_any (s : ByteArray) (a x : Nat) (w : World) (_hs : s.size ≤ 140737488355328) : Calls Try.prog 73 #[.string s, .int .i64 (a : Int), .int .u8 (x : Int)] w fun e w' => e = .returned (.bool (sb s a x)) ∧ w = w' := by
  by_cases h : a < s.size
  · have hx := byt_at s a h
    have HE : Hid (sb s a x = (((s[a]'h).toNat : Int) == (x : Int))) := by
      show _ = _
      unfold sb
      rw [hx, Bool.eq_iff_iff, decide_eq_true_iff, beq_iff_eq, Option.some.injEq]
      omega
    clear hx
    go_enter Try.func73, Try.ntmps73
    go_wp2
    go_ret
    exact ⟨ret_bool HE.out.symm, rfl⟩
  · have HE : Hid (sb s a x = false) := by
      show _ = _
      unfold sb
      rw [List.getElem?_eq_none (by rw [byt_length]; omega)]
      simp
    go_enter Try.func73, Try.ntmps73
    go_wp2
    go_ret
    exact ⟨ret_bool HE.out.symm, rfl⟩
/-- What reads a tree. -/
def TakeR (r : Option (Tr × Nat)) (w : World) (e : Ending) (w' : World) : Prop :=
  (match r with
    | some q => ∃ v, e = .returned (.tuple #[v, .int .i64 (q.2 : Int), .bool true]) ∧ InT w' w'.heap.size q.1 v
    | none => e = .returned (.tuple #[tv false none 0 0, .int .i64 0, .bool false])) ∧ Below w.heap.size w w'
theorem XS.none {w W : World} {bs : List (Nat × Value × Value)} {rs : List Nat} (h : XS w bs (w.heap.size :: rs) W) : TakeR .none w (.returned (.tuple #[tv false Option.none 0 0, .int .i64 0, .bool false])) ((W.setCell ⟨w.heap.size, 0, Option.none⟩ (.bool false)).setCell ⟨w.heap.size, 1, Option.none⟩ (.slice Option.none 0 0)) :=
  ⟨rfl, (h.fin (zero_in _ _) _ (by simp) _ _).2⟩
theorem XS.some {w W : World} {bs : List (Nat × Value × Value)} {rs : List Nat} (h : XS w bs (w.heap.size :: rs) W) {t : Tr} {v : Value} (ht : InT W W.heap.size t v) (p : Nat) (z : Int) (hz : z = (p : Int)) (u1 u2 : Value) : TakeR (.some (t, p)) w (.returned (.tuple #[v, .int .i64 z, .bool true])) ((W.setCell ⟨w.heap.size, 0, Option.none⟩ u1).setCell ⟨w.heap.size, 1, Option.none⟩ u2) := by
  subst hz
  exact ⟨⟨_, rfl, (h.fin ht _ (by simp) _ _).1⟩, (h.fin ht _ (by simp) _ _).2⟩
theorem alike_eq {w : World} {B : Nat} {x y : Tr} {o1 o2 : Bool} {A1 A2 : Option Addr} {n1 n2 c1 c2 : Nat} (hx : InT w B x (tv o1 A1 n1 c1)) (hy : InT w B y (tv o2 A2 n2 c2)) : alikeB o1 n1 o2 n2 = alikeT x y := by
  rcases hx.leafy with ⟨rfl, rfl⟩ | ⟨rfl, rfl, l, r, rfl⟩
  · rcases hy.leafy with ⟨rfl, rfl⟩ | ⟨rfl, rfl, l, r, rfl⟩
    · simp [alikeB, alikeT]
    · simp [alikeB, alikeT]
  · cases y <;> simp [alikeB, alikeT]
theorem tk_lt {l : List Nat} {d a : Nat} {t : Tr} {p : Nat} (h : tk l d a = some (t, p)) : a < p ∧ p ≤ l.length := by
  obtain ⟨h1, h2, _, h4⟩ := rk_text l d a t p ((tk_rk l d a t p).1 h).1
  have := text_len t
  have := t.nodes_pos
  omega

set_option maxRecDepth 100000 in
set_option maxHeartbeats 6400000 in
theorem takeText_any (s : ByteArray) (hs : s.size ≤ 140737488355328) (d : Nat) : ∀ (a : Nat) (w : World), d ≤ 33 → a ≤ s.size → Calls Try.prog 51 #[.string s, .int .i64 (a : Int), .int .i64 (33 - (d : Int))] w (TakeR (tk (byt s) d a) w) := by
  induction d with
  | zero =>
    intro a w _ ha
    have HE : Hid (tk (byt s) 0 a = none) := rfl
    have HX := Lib.hid ((XS.begin w).fresh (.bool false) (.slice none 0 0))
    simp only [List.nil_append] at HX
    simp only [Int.natCast_zero, Int.sub_zero]
    clear HX
    go_enter Try.func51, Try.ntmps51
    go_wp2
    refine bodyPost_ret (v := .tuple #[tv false none 0 0, .int .i64 0, .bool false]) (by simp [results, Try.f51, go_sem, tv]) rfl ?_
    rw [HE.out]
    exact ⟨rfl, (Below.refl _ w).alloc (Nat.le_refl _) _⟩
  | succ d ih =>
    intro a w hd ha
    have HX := Lib.hid ((XS.begin w).fresh (.bool false) (.slice none 0 0))
    simp only [List.nil_append] at HX
    obtain ⟨D, hD⟩ : ∃ D : Int, (33 : Int) - ((d + 1 : Nat) : Int) = D := ⟨_, rfl⟩
    have hD1 : (33 : Int) - (d : Int) = D + 1 := by omega
    have hD2 : 0 ≤ D := by omega
    have hD3 : D ≤ 32 := by omega
    have ih := fun a w ha => ih a w (by omega) ha
    rw [hD1] at ih
    rw [hD]
    have hl := byt_length s
    have h0 := fun a x w => stands_any s a x w hs
    have hb0 : sb s a 48 = decide ((byt s)[a]? = some 48) := rfl
    have hb1 : sb s a 49 = decide ((byt s)[a]? = some 49) := rfl
    have hb2 : sb s a 40 = decide ((byt s)[a]? = some 40) := rfl
    have HT : Hid (tk (byt s) (d + 1) a = if (byt s)[a]? = some 48 then some (.leaf false, a + 1) else if (byt s)[a]? = some 49 then some (.leaf true, a + 1) else if (byt s)[a]? = some 40 then
      (match tk (byt s) d (a + 1) with
        | none => none
        | some r => if (byt s)[r.2]? = some 44 then
            (match tk (byt s) d (r.2 + 1) with
              | none => none
              | some q => if (byt s)[q.2]? = some 41 then (if alikeT r.1 q.1 = true then none else some (.node r.1 q.1, q.2 + 1)) else none)
          else none)
      else none) := rfl
    have HL := Lib.hid hl
    clear hD hD1 hl
    go_enter Try.func51, Try.ntmps51
    go_wp2_with fail
    refine (h0 a 48 _).mono ?_
    rintro e w1 ⟨rfl, rfl⟩
    by_cases k0 : (byt s)[a]? = some 48
    · rw [hb0, decide_eq_true k0]
      have HE : Hid (tk (byt s) (d + 1) a = some (.leaf false, a + 1)) := by show _ = _; rw [HT.out, if_pos k0]
      have hlt : a < s.size := by have := (List.getElem?_eq_some_iff.1 k0).1; have := HL.out; omega
      clear HX HT h0 hb0 hb1 hb2 k0 ih
      go_wp2
      refine bodyPost_ret (v := .tuple #[tv false none 0 0, .int .i64 ((a : Int) + 1), .bool true]) (by simp [results, Try.f51, go_sem, tv]) rfl ?_
      rw [HE.out]
      exact ⟨⟨_, rfl, zero_in _ _⟩, (Below.refl _ w).alloc (Nat.le_refl _) _⟩
    · rw [hb0, decide_eq_false k0]
      go_wp2_with fail
      refine (h0 a 49 _).mono ?_
      rintro e w2 ⟨rfl, rfl⟩
      by_cases k1 : (byt s)[a]? = some 49
      · rw [hb1, decide_eq_true k1]
        have HE : Hid (tk (byt s) (d + 1) a = some (.leaf true, a + 1)) := by show _ = _; rw [HT.out, if_neg k0, if_pos k1]
        have hlt : a < s.size := by have := (List.getElem?_eq_some_iff.1 k1).1; have := HL.out; omega
        clear HX HT h0 hb0 hb1 hb2 k0 k1 ih
        go_wp2
        refine bodyPost_ret (v := .tuple #[tv true none 0 0, .int .i64 ((a : Int) + 1), .bool true]) (by simp [results, Try.f51, go_sem, tv]) rfl ?_
        rw [HE.out]
        exact ⟨⟨_, rfl, ⟨none, 0, rfl⟩⟩, (Below.refl _ w).alloc (Nat.le_refl _) _⟩
      · rw [hb1, decide_eq_false k1]
        go_wp2_with fail
        refine (h0 a 40 _).mono ?_
        rintro e w3 ⟨rfl, rfl⟩
        have HT2 := Lib.hid HT.out
        clear HT
        have HT : Hid (tk (byt s) (d + 1) a = if (byt s)[a]? = some 40 then
          (match tk (byt s) d (a + 1) with
            | none => none
            | some r => if (byt s)[r.2]? = some 44 then
                (match tk (byt s) d (r.2 + 1) with
                  | none => none
                  | some q => if (byt s)[q.2]? = some 41 then (if alikeT r.1 q.1 = true then none else some (.node r.1 q.1, q.2 + 1)) else none)
              else none)
          else none) := by show _ = _; rw [HT2.out, if_neg k0, if_neg k1]
        clear HT2 k0 k1 hb0 hb1
        by_cases k2 : (byt s)[a]? = some 40
        · have hlt : a < s.size := by have := (List.getElem?_eq_some_iff.1 k2).1; have := HL.out; omega
          rw [hb2, decide_eq_true k2]
          rw [if_pos k2] at HT
          have hc1 := fun W => ih (a + 1) W hlt
          simp only [Int.natCast_add, Int.natCast_one] at hc1
          clear k2 hb2
          go_wp2_with fail
          refine (hc1 _).mono ?_
          rintro e w4 ⟨he, hb4⟩
          have hx4 := HX.out.next hb4
          clear hb4 hc1 HX
          cases hr : tk (byt s) d (a + 1) with
          | none =>
            rw [hr] at he HT
            simp only at he HT
            subst he
            have HX4 := Lib.hid (hx4.boxed (.bool false) (.slice none 0 0))
            simp only [List.nil_append] at HX4
            have HE := Lib.hid HT.out
            clear hx4 hr ih h0 HT
            obtain ⟨y0, y1, ⟨d0, d1⟩, f0, f1⟩ := HX4.out.facts w.heap.size (by simp)
            have HN := Lib.hid (HX4.out.none)
            clear HX4
            unfold tv
            go_wp2
            refine bodyPost_ret (v := .tuple #[tv false none 0 0, .int .i64 0, .bool false]) (by simp [results, Try.f51, go_sem, tv, d0, d1]) rfl ?_
            rw [HE.out]
            exact HN.out
          | some r =>
            obtain ⟨r1, r2⟩ := r
            rw [hr] at he HT
            simp only at he HT
            obtain ⟨v4, rfl, h4⟩ := he
            obtain ⟨o4, A4, n4, c4, rfl⟩ := h4.form
            have HX4 := Lib.hid (hx4.boxed (.bool o4) (.slice A4 n4 c4))
            simp only [List.nil_append] at HX4
            have H4 := Lib.hid (h4.up ((Below.refl _ w4).alloc (Nat.le_refl _) (.cells #[.bool o4, .slice A4 n4 c4] 24)))
            have hr2 := tk_lt hr
            have hl := HL.out
            clear hx4 hr h4
            have hb3 : sb s r2 44 = decide ((byt s)[r2]? = some 44) := rfl
            unfold tv
            go_wp2_with fail
            refine (h0 r2 44 _).mono ?_
            rintro e w5 ⟨rfl, rfl⟩
            by_cases k3 : (byt s)[r2]? = some 44
            · have hlt2 : r2 < s.size := by have := (List.getElem?_eq_some_iff.1 k3).1; omega
              rw [hb3, decide_eq_true k3]
              rw [if_pos k3] at HT
              have hc2 := fun W => ih (r2 + 1) W hlt2
              simp only [Int.natCast_add, Int.natCast_one] at hc2
              clear k3 hb3
              go_wp2_with fail
              refine (hc2 _).mono ?_
              rintro e w6 ⟨he, hb6⟩
              have hx6 := HX4.out.next hb6
              have H6 := Lib.hid (H4.out.up hb6)
              clear hb6 hc2 HX4 H4
              cases hq : tk (byt s) d (r2 + 1) with
              | none =>
                rw [hq] at he HT
                simp only at he HT
                subst he
                have HX6 := Lib.hid (hx6.boxed (.bool false) (.slice none 0 0))
                simp only [List.cons_append, List.nil_append] at HX6
                have HE := Lib.hid HT.out
                clear hx6 hq ih h0 HT H6
                obtain ⟨y0, y1, ⟨d0, d1⟩, f0, f1⟩ := HX6.out.facts w.heap.size (by simp)
                have HN := Lib.hid (HX6.out.none)
                clear HX6
                unfold tv
                go_wp2
                refine bodyPost_ret (v := .tuple #[tv false none 0 0, .int .i64 0, .bool false]) (by simp [results, Try.f51, go_sem, tv, d0, d1]) rfl ?_
                rw [HE.out]
                exact HN.out
              | some q =>
                obtain ⟨q1, q2⟩ := q
                rw [hq] at he HT
                simp only at he HT
                obtain ⟨v6, rfl, h6⟩ := he
                obtain ⟨o6, A6, n6, c6, rfl⟩ := h6.form
                have HX6 := Lib.hid (hx6.boxed (.bool o6) (.slice A6 n6 c6))
                simp only [List.cons_append, List.nil_append] at HX6
                have hd6 : Below w6.heap.size w6 (w6.alloc (.cells #[.bool o6, .slice A6 n6 c6] 24)) := (Below.refl _ w6).alloc (Nat.le_refl _) _
                have I4 := Lib.hid (H6.out.up hd6)
                have I6 := Lib.hid (h6.up hd6)
                have hq2 := tk_lt hq
                clear hx6 hq h6 hd6 H6 ih
                have hb4 : sb s q2 41 = decide ((byt s)[q2]? = some 41) := rfl
                unfold tv
                go_wp2_with fail
                refine (h0 q2 41 _).mono ?_
                rintro e w7 ⟨rfl, rfl⟩
                clear h0
                by_cases k4 : (byt s)[q2]? = some 41
                · have hlt3 : q2 < s.size := by have := (List.getElem?_eq_some_iff.1 k4).1; omega
                  rw [hb4, decide_eq_true k4]
                  rw [if_pos k4] at HT
                  have hca := alike_any o4 A4 n4 c4 o6 A6 n6 c6 (w6.alloc (.cells #[.bool o6, .slice A6 n6 c6] 24))
                  have HAL : Hid (alikeB o4 n4 o6 n6 = alikeT r1 q1) := alike_eq I4.out I6.out
                  have hcp := fun W (h : Below (w6.alloc (.cells #[.bool o6, .slice A6 n6 c6] 24)).heap.size (w6.alloc (.cells #[.bool o6, .slice A6 n6 c6] 24)) W) => pair_any r1 q1 _ _ W (I4.out.up h) (I6.out.up h)
                  unfold tv at hca hcp
                  have f := HX6.out.at0
                  simp only [List.mem_cons, List.not_mem_nil, or_false, forall_eq_or_imp, forall_eq] at f
                  obtain ⟨⟨p0, q0, _⟩, p1, q1, _⟩ := f
                  clear k4 hb4 I4 I6
                  go_wp2_with fail
                  refine hca.mono ?_
                  rintro e w8 ⟨rfl, hb8⟩
                  have hcp := hcp w8 hb8
                  have HX8 := Lib.hid (HX6.out.next hb8)
                  clear hb8 HX6 p0 q0 p1 q1 hca
                  rw [HAL.out]
                  clear HAL
                  cases hal : alikeT r1 q1 with
                  | true =>
                    rw [hal] at HT
                    have HE : Hid (tk (byt s) (d + 1) a = none) := by show _ = _; rw [HT.out]; simp
                    clear HT hal hcp
                    obtain ⟨y0, y1, ⟨d0, d1⟩, f0, f1⟩ := HX8.out.facts w.heap.size (by simp)
                    have HN := Lib.hid (HX8.out.none)
                    clear HX8
                    go_wp2
                    refine bodyPost_ret (v := .tuple #[tv false none 0 0, .int .i64 0, .bool false]) (by simp [results, Try.f51, go_sem, tv, d0, d1]) rfl ?_
                    rw [HE.out]
                    exact HN.out
                  | false =>
                    rw [hal] at HT
                    have HE : Hid (tk (byt s) (d + 1) a = some (.node r1 q1, q2 + 1)) := by show _ = _; rw [HT.out]; simp
                    clear HT hal
                    have f := HX8.out.at0
                    simp only [List.mem_cons, List.not_mem_nil, or_false, forall_eq_or_imp, forall_eq] at f
                    obtain ⟨⟨p0, q0, _⟩, p1, q1, _⟩ := f
                    go_wp2_with fail
                    refine hcp.mono ?_
                    rintro e w9 ⟨v9, rfl, h9, hb9⟩
                    obtain ⟨o9, A9, n9, c9, rfl⟩ := h9.form
                    have HX9 := Lib.hid (HX8.out.next hb9)
                    obtain ⟨y0, y1, ⟨d0, d1⟩, f0, f1⟩ := HX9.out.facts w.heap.size (by simp)
                    have HN := Lib.hid (HX9.out.some h9 (q2 + 1) ((q2 : Int) + 1) (by omega) (.bool o9) (.slice A9 n9 c9))
                    clear HX9 HX8 hb9 h9 hcp p0 q0 p1 q1
                    unfold tv
                    go_wp2
                    refine bodyPost_ret (v := .tuple #[tv o9 A9 n9 c9, .int .i64 ((q2 : Int) + 1), .bool true]) (by simp [results, Try.f51, go_sem, tv, d0, d1]) rfl ?_
                    rw [HE.out]
                    exact HN.out
                · rw [hb4, decide_eq_false k4]
                  rw [if_neg k4] at HT
                  have HE := Lib.hid HT.out
                  clear k4 hb4 HT I4 I6
                  obtain ⟨y0, y1, ⟨d0, d1⟩, f0, f1⟩ := HX6.out.facts w.heap.size (by simp)
                  have HN := Lib.hid (HX6.out.none)
                  clear HX6
                  go_wp2
                  refine bodyPost_ret (v := .tuple #[tv false none 0 0, .int .i64 0, .bool false]) (by simp [results, Try.f51, go_sem, tv, d0, d1]) rfl ?_
                  rw [HE.out]
                  exact HN.out
            · rw [hb3, decide_eq_false k3]
              rw [if_neg k3] at HT
              have HE := Lib.hid HT.out
              clear k3 hb3 HT ih h0 H4
              obtain ⟨y0, y1, ⟨d0, d1⟩, f0, f1⟩ := HX4.out.facts w.heap.size (by simp)
              have HN := Lib.hid (HX4.out.none)
              clear HX4
              go_wp2
              refine bodyPost_ret (v := .tuple #[tv false none 0 0, .int .i64 0, .bool false]) (by simp [results, Try.f51, go_sem, tv, d0, d1]) rfl ?_
              rw [HE.out]
              exact HN.out
        · rw [hb2, decide_eq_false k2]
          rw [if_neg k2] at HT
          have HE := Lib.hid HT.out
          clear HT k2 hb2 ih h0
          clear HX
          go_wp2
          refine bodyPost_ret (v := .tuple #[tv false none 0 0, .int .i64 0, .bool false]) (by simp [results, Try.f51, go_sem, tv]) rfl ?_
          rw [HE.out]
          exact ⟨rfl, (Below.refl _ w).alloc (Nat.le_refl _) _⟩
end Go.Proofs.Ytkpefelakhbkhaa.I
