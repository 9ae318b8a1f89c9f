/-
  The program's allRight, next, cut, together.
-/
import Derived.Test.YtdffifkleaekhaaVRName
import Derived.Deep.Slices
import Derived.Laws.ResultCell
namespace Go.Proofs.Ytdffifkleaekhaa.V
open Go.RowKit
set_option linter.unusedVariables false
set_option linter.unusedSimpArgs false

/-- A vector that lies somewhere. -/
structure Vc where
  A : Option Addr
  c : Nat
  l : List D
def Vc.v (x : Vc) : Value := .slice x.A x.l.length x.c
/-- It lies below block B, and has room enough. -/
def Vc.ok (x : Vc) (w : World) (B : Nat) : Prop := RowD w B x.A x.l ∧ x.l.length ≤ x.c ∧ x.c ≤ 9223372036854775807 ∧ x.l.length ≤ 10000000000000
theorem Vc.ok.below {x : Vc} {w w' : World} {B : Nat} (h : x.ok w B) (hb : Below B w w') : x.ok w' B := ⟨h.1.below hb, h.2⟩
theorem Vc.ok.more {x : Vc} {w : World} {B B' : Nat} (h : x.ok w B) (hB : B ≤ B') : x.ok w B' := ⟨h.1.more hB, h.2⟩
theorem Vc.ok.up {x : Vc} {w w' : World} (h : x.ok w w.heap.size) (hb : Below w.heap.size w w') : x.ok w' w'.heap.size := ⟨h.1.up hb, h.2⟩
/-- Vectors in a slice. -/
def RowL (w : World) (B : Nat) (A : Option Addr) (ls : List Vc) : Prop :=
  0 < ls.length → ∃ b off, A = some ⟨b, off, none⟩ ∧ b < B ∧ ∀ j x, ls[j]? = some x → w.cell? ⟨b, off + j, none⟩ = some x.v ∧ x.ok w B
theorem RowL.below {w w' : World} {B : Nat} {A : Option Addr} {ls : List Vc} (h : RowL w B A ls) (hb : Below B w w') : RowL w' B A ls := fun hn => by
  obtain ⟨b, off, e, hl, hc⟩ := h hn
  exact ⟨b, off, e, hl, fun j x hj => ⟨(hb.cell hl).trans (hc j x hj).1, (hc j x hj).2.below hb⟩⟩
theorem RowL.more {w : World} {B B' : Nat} {A : Option Addr} {ls : List Vc} (h : RowL w B A ls) (hB : B ≤ B') : RowL w B' A ls := fun hn => by
  obtain ⟨b, off, e, hl, hc⟩ := h hn
  exact ⟨b, off, e, by omega, fun j x hj => ⟨(hc j x hj).1, (hc j x hj).2.more hB⟩⟩
theorem RowL.up {w w' : World} {A : Option Addr} {ls : List Vc} (h : RowL w w.heap.size A ls) (hb : Below w.heap.size w w') : RowL w' w'.heap.size A ls := (h.below hb).more hb.size
/-- Two vectors, put into a new slice. -/
theorem rowL_two {w : World} {x y : Vc} (hx : x.ok w w.heap.size) (hy : y.ok w w.heap.size) : RowL (w.alloc (.cells #[x.v, y.v] 24)) (w.alloc (.cells #[x.v, y.v] 24)).heap.size (some ⟨w.heap.size, 0, none⟩) [x, y] := fun _ => by
  have hb : Below w.heap.size w (w.alloc (.cells #[x.v, y.v] 24)) := (Below.refl _ w).alloc (Nat.le_refl _) _
  refine ⟨w.heap.size, 0, rfl, by simp, fun j z hj => ?_⟩
  match j, hj with
  | 0, hj => simp at hj; subst hj; exact ⟨by simp [go_sem], hx.up hb⟩
  | 1, hj => simp at hj; subst hj; exact ⟨by simp [go_sem], hy.up hb⟩
def allR (ls : List Vc) : Bool := ls.all fun x => rightB x.l
theorem allR_drop {ls : List Vc} {j : Nat} {x : Vc} (hj : j < ls.length) (hd : ls[j]'hj = x) : allR (ls.drop j) = (rightB x.l && allR (ls.drop (j + 1))) := by
  rw [List.drop_eq_getElem_cons hj, hd]; rfl

set_option maxRecDepth 100000 in
set_option maxHeartbeats 1600000 in
theorem allRight_any {A : Option Addr} {ls : List Vc} (c : Nat) {w : World} (hr : RowL w w.heap.size A ls) (hl : ls.length ≤ 10000000000000) : Calls Try.prog 98 #[.slice A ls.length c] w fun e w' => e = .returned (.bool (allR ls)) ∧ Below w.heap.size w w' := by
  obtain ⟨L, hL⟩ : ∃ L, ls.length = L := ⟨_, rfl⟩
  rw [hL] at hl ⊢
  have HR := Lib.hid hr
  clear hr
  go_enter Try.func98, Try.ntmps98
  go_wp2
  go_loopg [7] L (fun k i wr => ∃ (j : Nat), j ≤ L ∧ k = L - j ∧ i = .int .i64 j ∧ Hid (allR (ls.drop j) = allR ls) ∧ Below w.heap.size w wr)
  case atStart => exact ⟨0, by omega, by omega, rfl, rfl, Below.refl _ w⟩
  case round =>
    obtain ⟨j, hj, hgk, rfl, hat, hbw⟩ := hrel
    have HGK := Lib.hid hgk; clear hgk
    by_cases hlt : j < L
    · have hlt' : j < ls.length := by rw [hL]; exact hlt
      obtain ⟨b, off, rfl, hbs, hc⟩ := HR.out (by omega)
      obtain ⟨c0, o0⟩ := hc j _ (List.getElem?_eq_getElem hlt')
      clear hc
      obtain ⟨x, hd⟩ : ∃ x, ls[j]'hlt' = x := ⟨_, rfl⟩
      rw [hd] at c0 o0
      have hk := Lib.hid (allR_drop hlt' hd)
      have g0 := (hbw.cell (p := ⟨b, off + j, none⟩) hbs).trans c0
      have O2 := Lib.hid ((o0.below hbw).more hbw.size)
      have HBW := Lib.hid hbw
      clear c0 o0 hbw
      obtain ⟨xA, xc, xl⟩ := x
      simp only [Vc.v] at g0
      obtain ⟨N, hN⟩ : ∃ N, xl.length = N := ⟨_, rfl⟩
      rw [hN] at g0
      go_wp2_with fail
      rw [← hN]
      refine (right_any xc O2.out.1 O2.out.2.2.2).mono ?_
      rintro e w2 ⟨rfl, h2⟩
      have HB2 := Lib.hid (HBW.out.trans (h2.mono HBW.out.size))
      clear h2 HBW O2 g0
      obtain ⟨R, hR⟩ : ∃ R, rightB xl = R := ⟨_, rfl⟩
      rw [hR]
      cases R with
      | true =>
        have hf := Lib.hid (show allR (ls.drop (j + 1)) = allR ls by rw [← hat.out, hk.out, hR]; rfl)
        go_wp2
        go_roundg (L - (j + 1))
        case rel => exact ⟨j + 1, by omega, rfl, by go_num, hf, HB2.out⟩
        case measure => have := HGK.out; omega
      | false =>
        have hf := Lib.hid (show allR ls = false by rw [← hat.out, hk.out, hR]; rfl)
        go_wp2
        go_ret
        exact ⟨ret_bool hf.out.symm, HB2.out⟩
    · have hin : j = L := by omega
      subst hin
      have hf := Lib.hid (show allR ls = true by rw [← hat.out, List.drop_eq_nil_of_le (by omega)]; rfl)
      go_wp2
      go_ret
      exact ⟨ret_bool hf.out.symm, hbw⟩

theorem run_min_str (x y : ByteArray) (w : World) : (Builtin.min_ #[9, 9] 9 #[.string x, .string y]).run Try.prog w = .ok (.string (if ltA y x = true then y else x)) w := by
  unfold Builtin.min_
  simp only [List.foldlM]
  unfold ltA
  simp [Builtin.min2, Op.stringOp, go_sem]
  split <;> rename_i h
  · have e : ltA y x = false := by
      have := lt_str (a := x) (b := y)
      cases hq : ltA y x with
      | false => rfl
      | true => rw [hq] at this; simp at this h; rcases h with h | h <;> simp_all
    have e' : Op.bytesLess y.toList x.toList = false := e
    rw [if_neg (by rw [e']; decide)]
  · have e : ltA y x = true := by
      have := lt_str (a := x) (b := y)
      cases hq : ltA y x with
      | true => rfl
      | false => rw [hq] at this; simp at this h; rcases this with h2 | h2 <;> simp_all
    have e' : Op.bytesLess y.toList x.toList = true := e
    rw [if_pos e']

set_option maxRecDepth 100000 in
set_option maxHeartbeats 1600000 in
theorem next_any {A A2 : Option Addr} {a b : List D} (c c2 : Nat) {w : World} (ha : RowD w w.heap.size A a) (hb : RowD w w.heap.size A2 b) (hne : 0 < a.length ∨ 0 < b.length) : Calls Try.prog 107 #[.slice A a.length c, .slice A2 b.length c2] w fun e w' => e = .returned (.string (nextW a b)) ∧ Below w.heap.size w w' := by
  cases a with
  | nil =>
    cases b with
    | nil => simp at hne
    | cons d t =>
      obtain ⟨b', off, rfl, hbs, c0, c1⟩ := hb.at 0 (by simp)
      obtain ⟨s, n⟩ := d
      obtain ⟨N, hN⟩ : ∃ N, t.length = N := ⟨_, rfl⟩
      simp only [List.getElem_cons_zero, Nat.zero_mul, Nat.add_zero, nextW, List.length_cons, List.length_nil, hN] at *
      clear ha hb hne
      go_enter Try.func107, Try.ntmps107
      go_wp2
      go_ret
      exact ⟨rfl, Below.refl _ w⟩
  | cons d s =>
    obtain ⟨b', off, rfl, hbs, c0, c1⟩ := ha.at 0 (by simp)
    obtain ⟨x, n⟩ := d
    obtain ⟨N, hN⟩ : ∃ N, s.length = N := ⟨_, rfl⟩
    cases b with
    | nil =>
      simp only [List.getElem_cons_zero, Nat.zero_mul, Nat.add_zero, nextW, List.length_cons, List.length_nil, hN] at *
      have hn0 : (((N + 1 : Nat) : Int) == 0) = false := by rw [beq_eq_false_iff_ne]; omega
      have hn1 : (((N : Nat) : Int) + 1 == 0) = false := by rw [beq_eq_false_iff_ne]; omega
      clear ha hb hne
      go_enter Try.func107, Try.ntmps107
      go_wp2
      go_ret
      exact ⟨rfl, Below.refl _ w⟩
    | cons e t =>
      obtain ⟨b2, off2, rfl, hbs2, e0, e1⟩ := hb.at 0 (by simp)
      obtain ⟨y, m⟩ := e
      obtain ⟨M, hM⟩ : ∃ M, t.length = M := ⟨_, rfl⟩
      simp only [List.getElem_cons_zero, Nat.zero_mul, Nat.add_zero, nextW, List.length_cons, List.length_nil, hN, hM] at *
      have hn0 : (((N + 1 : Nat) : Int) == 0) = false := by rw [beq_eq_false_iff_ne]; omega
      have hn1 : (((N : Nat) : Int) + 1 == 0) = false := by rw [beq_eq_false_iff_ne]; omega
      have hn2 : (((M + 1 : Nat) : Int) == 0) = false := by rw [beq_eq_false_iff_ne]; omega
      have hn3 : (((M : Nat) : Int) + 1 == 0) = false := by rw [beq_eq_false_iff_ne]; omega
      clear ha hb hne
      obtain ⟨Lt, hLt⟩ : ∃ Lt, ltA y x = Lt := ⟨_, rfl⟩
      rw [hLt]
      have hl3 : Op.bytesLess y.toList x.toList = Lt := hLt
      go_enter Try.func107, Try.ntmps107
      have hmin : ∀ wx, (Builtin.min_ #[9, 9] 9 #[.string x, .string y]).run Try.prog wx = .ok (.string (if Lt = true then y else x)) wx := fun wx => by rw [← hLt]; exact run_min_str x y wx
      obtain ⟨r, hr⟩ : ∃ r, (if Lt = true then y else x) = r := ⟨_, rfl⟩
      rw [hr] at hmin ⊢
      clear hl3 hLt hr
      go_wp2
      go_region
      all_goals
        go_wp2
        go_ret
        exact ⟨rfl, by simp only [World.drew]; exact ⟨rfl, rfl, rfl, Nat.le_refl _, fun _ _ => rfl⟩⟩

set_option maxRecDepth 100000 in
set_option maxHeartbeats 1600000 in
/-- What cut leaves of a vector. -/
theorem cut_any {A : Option Addr} {l : List D} {c B : Nat} (x : ByteArray) {w : World} (hr : Vc.ok ⟨A, c, l⟩ w B) (hB : B ≤ w.heap.size) : Calls Try.prog 108 #[.slice A l.length c, .string x] w fun e w' => ∃ A' c', e = .returned (.tuple #[.agg #[.string x, .int .i64 (cutN l x)], .slice A' (cutT l x).length c']) ∧ Vc.ok ⟨A', c', cutT l x⟩ w B ∧ Below w.heap.size w w' := by
  have B2 : ∀ (o : Obj) (p : Addr) (u : Value), w.heap.size ≤ p.block → Below w.heap.size w ((w.alloc o).setCell p u) := fun o p u hp => ((Below.refl _ w).alloc (Nat.le_refl _) o).setCell hp u
  cases l with
  | nil =>
    simp only [cutN, cutT, List.length_nil]
    have HR := Lib.hid hr
    have HB := Lib.hid B2
    clear hr B2
    go_enter Try.func108, Try.ntmps108
    go_wp2
    refine bodyPost_ret (v := .tuple #[.agg #[.string x, .int .i64 0], .slice A 0 c]) (by rw [results_cell_tmp rfl]; go_simp) rfl ?_
    exact ⟨A, c, rfl, HR.out, (Below.refl _ w).alloc (Nat.le_refl _) _⟩
  | cons d t =>
    obtain ⟨b, off, rfl, hbs, c0, c1⟩ := hr.1.at 0 (by simp)
    have hcc := hr.2.1
    have hbs2 : b < w.heap.size := by omega
    have htl := Lib.hid hr.1.tail
    obtain ⟨s, n⟩ := d
    obtain ⟨N, hN⟩ : ∃ N, t.length = N := ⟨_, rfl⟩
    simp only [List.getElem_cons_zero, Nat.zero_mul, Nat.add_zero, List.length_cons, hN] at c0 c1 hcc ⊢
    have HR := Lib.hid hr
    have HB := Lib.hid B2
    clear hr B2
    by_cases hx : s = x
    · subst hx
      simp only [cutN, cutT, if_true, hN]
      have h1 : (s.toList == s.toList) = true := by simp
      by_cases hc1 : 1 < c
      · go_enter Try.func108, Try.ntmps108
        go_wp2
        go_region
        all_goals
          try go_wp2
          try simp only [Exit.inBlock, Exit.then]
          refine bodyPost_ret (v := .tuple #[.agg #[.string s, .int .i64 n], .slice (some ⟨b, off + 2, none⟩) N (c - 1)]) (by rw [results_cell_tmp rfl]; go_simp) rfl ?_
          exact ⟨_, _, rfl, ⟨htl.out, by show t.length ≤ c - 1; omega, by have := HR.out.2.2.1; simp only at this; show c - 1 ≤ _; omega, by have := HR.out.2.2.2; simp only [List.length_cons] at this; show t.length ≤ _; omega⟩, by repeat' (first | exact Below.refl _ _ | refine Below.drew ?_ | refine Below.setCell ?_ (by simp <;> omega) _ | refine Below.alloc ?_ (by simp <;> omega) _)⟩
      · obtain rfl : c = 1 := by omega
        obtain rfl : N = 0 := by omega
        go_enter Try.func108, Try.ntmps108
        go_wp2
        obtain rfl : t = [] := List.eq_nil_of_length_eq_zero hN
        go_region
        all_goals
          try go_wp2
          try simp only [Exit.inBlock, Exit.then]
          refine bodyPost_ret (v := .tuple #[.agg #[.string s, .int .i64 n], .slice (some ⟨b, off, none⟩) 0 0]) (by rw [results_cell_tmp rfl]; go_simp) rfl ?_
          exact ⟨_, _, rfl, ⟨RowD.none_ _ _ _, by simp, by show 0 ≤ _; omega, by simp⟩, by repeat' (first | exact Below.refl _ _ | refine Below.drew ?_ | refine Below.setCell ?_ (by simp <;> omega) _ | refine Below.alloc ?_ (by simp <;> omega) _)⟩
    · have h1 : (s.toList == x.toList) = false := by rw [eq_str]; exact decide_eq_false hx
      simp only [cutN, cutT, hx, if_false, List.length_cons, hN]
      go_enter Try.func108, Try.ntmps108
      go_wp2
      refine bodyPost_ret (v := .tuple #[.agg #[.string x, .int .i64 0], .slice (some ⟨b, off, none⟩) (N + 1) c]) (by rw [results_cell_tmp rfl]; go_simp) rfl ?_
      exact ⟨_, _, rfl, HR.out, (Below.refl _ w).alloc (Nat.le_refl _) _⟩
end Go.Proofs.Ytdffifkleaekhaa.V
