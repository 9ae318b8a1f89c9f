/-
  Contracts of the small functions over parts.
-/
import Derived.Test.YtccjdajneoploaaProg
import Derived.Test.YtccjdajneoploaaMath
import Derived.WalkKit
import Derived.WalkSpells
import Derived.WalkLawsBesides
import Derived.LoopTactic
import Derived.Laws.ShiftsVar
import Derived.Laws.BitsAllLaws
import Derived.Lib.Hide
import Derived.Deep.LoopGhost
namespace Go.Proofs.Ytccjdajneoploaa
open Go.RowKit

theorem ret_int {k : IntKind} {a b : Int} (h : a = b) : Ending.returned (.int k a) = .returned (.int k b) := by rw [h]
theorem ret_bool {a b : Bool} (h : a = b) : Ending.returned (.bool a) = .returned (.bool b) := by rw [h]

/-- A part as a value. -/
def pv (p : Part) : Value := .agg #[.bool p.t, .int .u64 (p.n : Int), .string p.s]
/-- A slice of parts that reads as l and lies below block B. -/
def RowP (w : World) (B : Nat) (A : Option Addr) (l : List Part) : Prop :=
  (∀ p ∈ l, p.n < 18446744073709551616) ∧ (0 < l.length → ∃ b off, A = some ⟨b, off, none⟩ ∧ b < B ∧ ∀ j p, l[j]? = some p → w.cell? ⟨b, off + j * 3, none⟩ = some (.bool p.t) ∧ w.cell? ⟨b, off + j * 3 + 1, none⟩ = some (.int .u64 (p.n : Int)) ∧ w.cell? ⟨b, off + j * 3 + 2, none⟩ = some (.string p.s))
theorem RowP.keep {w w' : World} {B : Nat} {A : Option Addr} {l : List Part} (h : RowP w B A l) (hk : ∀ p : Addr, p.block < B → w'.cell? p = w.cell? p) : RowP w' B A l :=
  ⟨h.1, fun hn => by
    obtain ⟨b, off, e, hb, hc⟩ := h.2 hn
    exact ⟨b, off, e, hb, fun j p hj => ⟨(hk _ hb).trans (hc j p hj).1, (hk _ hb).trans (hc j p hj).2.1, (hk _ hb).trans (hc j p hj).2.2⟩⟩⟩
theorem RowP.below {w w' : World} {B : Nat} {A : Option Addr} {l : List Part} (h : RowP w B A l) (hb : Below B w w') : RowP w' B A l := h.keep fun _ hp => hb.cell hp
theorem RowP.more {w : World} {B B' : Nat} {A : Option Addr} {l : List Part} (h : RowP w B A l) (hB : B ≤ B') : RowP w B' A l :=
  ⟨h.1, fun hn => by obtain ⟨b, off, e, hb, hc⟩ := h.2 hn; exact ⟨b, off, e, by omega, hc⟩⟩
theorem RowP.up {w w' : World} {A : Option Addr} {l : List Part} (h : RowP w w.heap.size A l) (hb : Below w.heap.size w w') : RowP w' w'.heap.size A l := (h.below hb).more hb.size
theorem RowP.none_ (w : World) (B : Nat) (A : Option Addr) : RowP w B A [] := ⟨by simp, fun h => absurd h (by simp)⟩

theorem toList_length (s : ByteArray) : s.toList.length = s.size := by rw [ByteArray.toList_eq]; simp
theorem empty_dec (s : ByteArray) : s.toList.isEmpty = decide (s.size = 0) := by
  rw [Bool.eq_iff_iff, List.isEmpty_iff, decide_eq_true_iff, ← toList_length, List.length_eq_zero_iff]

set_option maxRecDepth 100000 in
set_option maxHeartbeats 800000 in
theorem rightPart_any (p : Part) (w : World) :
    Calls Try.prog 26 #[pv p] w fun e w' => e = .returned (.bool (M.rightP p)) ∧ Below w.heap.size w w' := by
  obtain ⟨t, n, s⟩ := p
  unfold pv
  simp only
  cases t with
  | true =>
    by_cases h0 : n = 0
    · subst h0
      go_enter Try.func26, Try.ntmps26
      go_wp2
      go_ret
      exact ⟨ret_bool (by simp [M.rightP]; omega), (Below.refl _ w).alloc (Nat.le_refl _) _⟩
    · go_enter Try.func26, Try.ntmps26
      go_wp2
      go_ret
      exact ⟨ret_bool (by simp [M.rightP, h0]), (Below.refl _ w).alloc (Nat.le_refl _) _⟩
  | false =>
    go_enter Try.func26, Try.ntmps26
    go_wp2
    go_ret
    exact ⟨ret_bool (empty_dec s), (Below.refl _ w).alloc (Nat.le_refl _) _⟩

theorem RowP.part {w : World} {B : Nat} {A : Option Addr} {l : List Part} (h : RowP w B A l) (j : Nat) (hj : j < l.length) : ∃ p b off, l[j]? = some p ∧ A = some ⟨b, off, none⟩ ∧ b < B ∧ p.n < 18446744073709551616 ∧
    w.cell? ⟨b, off + j * 3, none⟩ = some (.bool p.t) ∧ w.cell? ⟨b, off + j * 3 + 1, none⟩ = some (.int .u64 (p.n : Int)) ∧ w.cell? ⟨b, off + j * 3 + 2, none⟩ = some (.string p.s) := by
  obtain ⟨b, off, e, hb, hc⟩ := h.2 (by omega)
  have hp : l[j]? = some l[j] := List.getElem?_eq_getElem hj
  exact ⟨l[j], b, off, hp, e, hb, h.1 _ (List.getElem_mem hj), hc j _ hp⟩

theorem right_false {l : List Part} {j : Nat} {p : Part} (hp : l[j]? = some p) (h : M.rightP p = false) : M.right l = false := by
  unfold M.right
  rw [Bool.and_eq_false_iff]
  left
  rw [List.all_eq_false]
  exact ⟨p, List.mem_of_getElem? hp, by rw [h]; decide⟩
theorem all_next {l : List Part} {j : Nat} {p : Part} (hp : l[j]? = some p) (h : M.rightP p = true) (hs : (l.take j).all M.rightP = true) : (l.take (j + 1)).all M.rightP = true := by
  obtain ⟨hj, e⟩ := List.getElem?_eq_some_iff.1 hp
  rw [List.take_succ_eq_append_getElem hj, List.all_append, hs, e]
  simp [h]

set_option maxRecDepth 100000 in
set_option maxHeartbeats 1600000 in
theorem right_any (A : Option Addr) (c : Nat) (l : List Part) (w : World) (hr : RowP w w.heap.size A l) (hl : l.length ≤ 140737488351232) :
    Calls Try.prog 14 #[.slice A l.length c] w fun e w' => e = .returned (.bool (M.right l)) ∧ Below w.heap.size w w' := by
  have HR := Lib.hid hr; clear hr
  go_enter Try.func14, Try.ntmps14
  go_wp2
  go_loopg [7] l.length (fun k i wr => ∃ (j : Nat), j ≤ l.length ∧ k = l.length - j ∧ i = .int .i64 j ∧ Hid ((l.take j).all M.rightP = true) ∧ Hid (Below w.heap.size w wr))
  case atStart => exact ⟨0, by omega, by omega, rfl, by show _ = _; simp, Below.refl _ _⟩
  case round =>
    obtain ⟨j, hj, hgk, rfl, hs, hB⟩ := hrel
    have HG := Lib.hid hgk; clear hgk
    by_cases hlt : j < l.length
    · obtain ⟨p, b, off, hp, rfl, hb, hn, c0, c1, c2⟩ := (HR.out.below hB.out).part j hlt
      have HP := Lib.hid hp
      clear hp
      go_wp2_with fail
      refine (rightPart_any p _).mono ?_
      rintro e w2 ⟨rfl, hb2⟩
      have HB2 : Hid (Below w.heap.size w w2) := (hB.out.alloc hB.out.size _).trans (hb2.mono (by simp; have := hB.out.size; omega))
      clear hb2 c0 c1 c2
      cases hrp : M.rightP p with
      | true =>
        have HS := Lib.hid (all_next HP.out hrp hs.out)
        clear hrp
        go_wp2
        go_roundg (l.length - (j + 1))
        case measure => have := HG.out; omega
        case rel => exact ⟨j + 1, by omega, rfl, by go_num, HS, HB2⟩
      | false =>
        have HF := Lib.hid (right_false HP.out hrp)
        clear hrp
        go_wp2
        go_ret
        exact ⟨ret_bool (HF.out.symm), HB2.out⟩
    · obtain rfl : j = l.length := by omega
      have HF : Hid (M.right l = (decide (0 < l.length) && decide (l.length ≤ 8))) := by
        show _ = _
        have := hs.out
        rw [List.take_length] at this
        unfold M.right; rw [this]; simp
      by_cases h0 : 0 < l.length
      · go_wp2
        go_ret
        exact ⟨ret_bool (by rw [HF.out, decide_eq_true h0, Bool.true_and]; exact decide_eq_decide.2 (by omega)), hB.out⟩
      · go_wp2
        go_ret
        exact ⟨ret_bool (by rw [HF.out]; simp; omega), hB.out⟩

set_option maxRecDepth 100000 in
set_option maxHeartbeats 1600000 in
theorem rright_any (A : Option Addr) (c : Nat) (l : List Part) (w : World) (hr : RowP w w.heap.size A l) (hl : l.length ≤ 140737488351232) :
    Calls Try.prog 15 #[.slice A l.length c] w fun e w' => e = .returned (.bool (M.right l)) ∧ Below w.heap.size w w' := by
  have HR := Lib.hid hr; clear hr
  go_enter Try.func15, Try.ntmps15
  go_wp2
  go_loopg [3] l.length (fun k i wr => ∃ (j : Nat), j ≤ l.length ∧ k = l.length - j ∧ i = .int .i64 j ∧ Hid ((l.take j).all M.rightP = true) ∧ Hid (Below w.heap.size w wr))
  case atStart => exact ⟨0, by omega, by omega, rfl, by show _ = _; simp, Below.refl _ _⟩
  case round =>
    obtain ⟨j, hj, hgk, rfl, hs, hB⟩ := hrel
    have HG := Lib.hid hgk; clear hgk
    by_cases hlt : j < l.length
    · obtain ⟨⟨t, n, s⟩, b, off, hp, rfl, hb, hn, c0, c1, c2⟩ := (HR.out.below hB.out).part j hlt
      have HP := Lib.hid hp
      have HB2 : ∀ o, Hid (Below w.heap.size w (wr.alloc o)) := fun o => hB.out.alloc hB.out.size _
      have HB3 := Lib.hid HB2
      clear hp HB2
      simp only at c0 c1 c2
      have YES : Hid (M.rightP ⟨t, n, s⟩ = true → (l.take (j + 1)).all M.rightP = true) := fun h => all_next HP.out h hs.out
      have NO : Hid (M.rightP ⟨t, n, s⟩ = false → M.right l = false) := fun h => right_false HP.out h
      clear hn
      cases t with
      | true =>
        by_cases h0 : n = 0
        · subst h0
          by_cases h5 : s.size ≤ 512
          · have HY := Lib.hid (YES.out (by simp [M.rightP]; omega))
            clear YES NO
            go_wp2
            go_roundg (l.length - (j + 1))
            case measure => have := HG.out; omega
            case rel => exact ⟨j + 1, by omega, rfl, by go_num, HY, HB3.out _⟩
          · have HN := Lib.hid (NO.out (by simp [M.rightP]; omega))
            clear YES NO
            go_wp2
            go_ret
            exact ⟨ret_bool HN.out.symm, HB3.out _⟩
        · have HN := Lib.hid (NO.out (by simp [M.rightP, h0]))
          clear YES NO
          go_wp2
          go_ret
          exact ⟨ret_bool HN.out.symm, HB3.out _⟩
      | false =>
        cases h0 : s.toList.isEmpty with
        | true =>
          have HY := Lib.hid (YES.out (by rw [empty_dec] at h0; simpa [M.rightP] using h0))
          clear YES NO
          go_wp2
          go_roundg (l.length - (j + 1))
          case measure => have := HG.out; omega
          case rel => exact ⟨j + 1, by omega, rfl, by go_num, HY, HB3.out _⟩
        | false =>
          have HN := Lib.hid (NO.out (by rw [empty_dec] at h0; simpa [M.rightP] using h0))
          clear YES NO
          go_wp2
          go_ret
          exact ⟨ret_bool HN.out.symm, HB3.out _⟩
    · obtain rfl : j = l.length := by omega
      have HF : Hid (M.right l = (decide (0 < l.length) && decide (l.length ≤ 8))) := by
        show _ = _
        have := hs.out
        rw [List.take_length] at this
        unfold M.right; rw [this]; simp
      by_cases h0 : 0 < l.length
      · go_wp2
        go_ret
        exact ⟨ret_bool (by rw [HF.out, decide_eq_true h0, Bool.true_and]; exact decide_eq_decide.2 (by omega)), hB.out⟩
      · go_wp2
        go_ret
        exact ⟨ret_bool (by rw [HF.out]; simp; omega), hB.out⟩
end Go.Proofs.Ytccjdajneoploaa
