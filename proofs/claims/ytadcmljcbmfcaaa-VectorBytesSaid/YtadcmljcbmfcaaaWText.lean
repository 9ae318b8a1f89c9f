/-
  TakeText, and the reference's.
-/
import Derived.Test.YtadcmljcbmfcaaaWTake
namespace Go.Proofs.Ytadcmljcbmfcaaa.Wi
open Go.RowKit

theorem takeN_some {l : List Nat} (hl : ∀ x ∈ l, x < 256) {a : Int} {n p : Nat} (h : M.takeN l a = some (n, p)) : 0 ≤ a ∧ n < 18446744073709551616 ∧ p = a.toNat + (M.code n).length ∧ p ≤ l.length ∧ (l.drop a.toNat).take (p - a.toNat) = M.code n := by
  unfold M.takeN at h
  split at h
  · rename_i h0
    cases hp : M.parse (l.drop a.toNat) with
    | none => rw [hp] at h; cases h
    | some q =>
      rw [hp] at h
      obtain ⟨n', c⟩ := q
      simp only [Option.map_some, Option.some.injEq, Prod.mk.injEq] at h
      obtain ⟨rfl, rfl⟩ := h
      obtain ⟨h1, h2, h3, h4⟩ := M.parse_one _ (fun x hx => hl x (List.mem_of_mem_drop hx)) n' c hp
      have := M.code_len n'
      rw [List.length_drop] at h3
      refine ⟨h0, h1, by rw [h2], by omega, ?_⟩
      rw [Nat.add_sub_cancel_left]; exact h4
  · cases h

/-- What TakeText finds. -/
def M.takeT (l : List Nat) (a m : Int) : Option (List Nat × Nat) :=
  match M.takeN l a with
  | none => none
  | some (n, p) => if (n : Int) ≤ m ∧ p + n ≤ l.length then some ((l.drop p).take n, p + n) else none
def txtR : Option (List Nat × Nat) → Value
  | none => .tuple #[.string (strB []), .int .i64 0, .int .i64 20]
  | some (t, p) => .tuple #[.string (strB t), .int .i64 (p : Int), .int .i64 0]
theorem Row.sub {w : World} {B b off : Nat} {l : List Nat} (h : Row w B (some ⟨b, off, none⟩) l) (p n : Nat) : Row w B (some ⟨b, off + p, none⟩) ((l.drop p).take n) := by
  refine ⟨fun x hx => h.1 x (List.mem_of_mem_drop (List.mem_of_mem_take hx)), fun hn => ?_⟩
  rw [List.length_take, List.length_drop] at hn
  obtain ⟨b', off', e, hb, hc⟩ := h.2 (by omega)
  injection e with e
  injection e with e1 e2
  subst e1 e2
  refine ⟨b, off + p, rfl, hb, fun j hj => ?_⟩
  rw [List.length_take, List.length_drop] at hj
  rw [Nat.add_assoc, hc (p + j) (by omega), List.getElem?_take, if_pos (by omega), List.getElem?_drop]

set_option maxRecDepth 100000 in
set_option maxHeartbeats 1600000 in
theorem takeText_any (A : Option Addr) (c : Nat) (l : List Nat) (a m : Int) (w : World) (hr : Row w w.heap.size A l) (hcap : l.length ≤ c) (hl : l.length ≤ 281474976710656) (ha1 : -9223372036854775808 ≤ a) (ha2 : a ≤ 9223372036854775807) (hm1 : -9223372036854775808 ≤ m) (hm2 : m ≤ 9223372036854775807) :
    Calls Try.prog 63 #[.slice A l.length c, .int .i64 a, .int .i64 m] w fun e w' => e = .returned (txtR (M.takeT l a m)) ∧ Below w.heap.size w w' := by
  have hnum := takeNumber_any A c l a w hr hl ha1 ha2
  have H256 := Lib.hid hr.1
  cases hT : M.takeN l a with
  | none =>
    have HT : Hid (M.takeT l a m = none) := by show _ = _; unfold M.takeT; rw [hT]
    rw [hT] at hnum
    simp only [numR] at hnum
    clear hT hr hcap
    have hne : ((20 : Int) != 0) = true := rfl
    go_enter Try.func63, Try.ntmps63
    go_wp2_with (go_at_call 49; refine hnum.mono ?_; rintro e w' ⟨rfl, hb⟩)
    go_ret3
    rw [HT.out]
    exact ⟨rfl, hb⟩
  | some np =>
    obtain ⟨n, p⟩ := np
    obtain ⟨h0, hn64, -, hpl, -⟩ := takeN_some hr.1 hT
    rw [hT] at hnum
    simp only [numR] at hnum
    have hf1 := fun w => fits_any n m w hn64 hm1 (by omega)
    have hf2 := fun w => fits_any n ((l.length : Int) - (p : Int)) w hn64 (by omega) (by omega)
    by_cases hA : (n : Int) ≤ m
    · by_cases hB : p + n ≤ l.length
      · have HT : Hid (M.takeT l a m = some ((l.drop p).take n, p + n)) := by show _ = _; unfold M.takeT; rw [hT]; exact if_pos ⟨hA, hB⟩
        have hA' : decide ((n : Int) ≤ m) = true := decide_eq_true hA
        have hB' : decide ((n : Int) ≤ (l.length : Int) - (p : Int)) = true := decide_eq_true (by omega)
        rw [hA'] at hf1
        rw [hB'] at hf2
        have hsome : ∃ b off, A = some ⟨b, off, none⟩ := by
          have : 0 < l.length := by
            rcases Nat.eq_zero_or_pos l.length with h | h
            · rw [List.eq_nil_of_length_eq_zero h] at hT
              unfold M.takeN at hT
              simp [M.parse] at hT
            · exact h
          obtain ⟨b, off, e, _⟩ := hr.2 this
          exact ⟨b, off, e⟩
        obtain ⟨b, off, rfl⟩ := hsome
        have hst : ∀ W, Below w.heap.size w W → ∀ c, (convert 43 9 (.slice (some ⟨b, off + p, none⟩) n c)).run Try.prog W = .ok (.string (strB ((l.drop p).take n))) W := by
          intro W hW c
          have := run_str _ c ((l.drop p).take n) W W.heap.size ((hr.up hW).sub p n)
          rwa [List.length_take, List.length_drop, Nat.min_eq_left (by omega)] at this
        obtain ⟨S, hS⟩ : ∃ S, strB ((l.drop p).take n) = S := ⟨_, rfl⟩
        rw [hS] at hst
        have HS := Lib.hid hS
        have HST := Lib.hid hst
        have e1 : p + n - p = n := by omega
        have hnn : n ≤ 281474976710656 := by omega
        have hemp : ∀ W a, (convert 43 9 (.slice a 0 0)).run Try.prog W = .ok (.string (strB [])) W := fun W a => run_str a 0 [] W 0 (Row.none_ _ _ _)
        obtain ⟨N, hN⟩ : ∃ N, l.length = N := ⟨_, rfl⟩
        have HN := Lib.hid hN
        rw [hN] at hnum hf2 hcap hl hpl hB ⊢
        have HB := Lib.hid hB
        have hpn : (p : Int) + (n : Int) ≤ (c : Int) := by omega
        clear hA hB hA' hB' hT hr hst hN hn64
        by_cases hpc : p < c
        · have hpc2 : ¬ c = p := by omega
          clear hS hemp
          go_enter Try.func63, Try.ntmps63
          go_wp2_with fail
          refine hnum.mono ?_
          rintro e w1 ⟨rfl, hb⟩
          have hst := HST.out _ hb
          go_wp2_with fail
          refine (hf1 _).mono ?_
          rintro e w2 ⟨rfl, rfl⟩
          go_wp2_with fail
          refine (hf2 _).mono ?_
          rintro e w2 ⟨rfl, rfl⟩
          go_wp2
          go_ret3
          rw [HT.out]
          exact ⟨by rw [← HS.out]; rfl, hb⟩
        · have hn0 : n = 0 := by have := HB.out; omega
          subst hn0
          have hpc2 : c = p := by have := HB.out; omega
          subst hpc2
          have hS0 : strB [] = S := by rw [← hS]; simp
          rw [hS0] at hemp
          clear hS hS0
          go_enter Try.func63, Try.ntmps63
          go_wp2_with fail
          refine hnum.mono ?_
          rintro e w1 ⟨rfl, hb⟩
          have hst := HST.out _ hb
          go_wp2_with fail
          refine (hf1 _).mono ?_
          rintro e w2 ⟨rfl, rfl⟩
          go_wp2_with fail
          refine (hf2 _).mono ?_
          rintro e w2 ⟨rfl, rfl⟩
          go_wp2
          go_ret3
          rw [HT.out]
          exact ⟨by rw [← HS.out]; rfl, hb⟩
      · have HT : Hid (M.takeT l a m = none) := by show _ = _; unfold M.takeT; rw [hT]; exact if_neg fun h => hB h.2
        have hA' : decide ((n : Int) ≤ m) = true := decide_eq_true hA
        have hB' : decide ((n : Int) ≤ (l.length : Int) - (p : Int)) = false := decide_eq_false (by omega)
        rw [hA'] at hf1
        rw [hB'] at hf2
        clear hA hB hA' hB' hT hr
        obtain ⟨V, hV⟩ : ∃ V : Int, (n : Int) = V := ⟨_, rfl⟩
        rw [hV] at hnum hf1 hf2
        clear hV hn64
        go_enter Try.func63, Try.ntmps63
        go_wp2_with fail
        refine hnum.mono ?_
        rintro e w1 ⟨rfl, hb⟩
        go_wp2_with fail
        refine (hf1 _).mono ?_
        rintro e w2 ⟨rfl, rfl⟩
        go_wp2_with fail
        refine (hf2 _).mono ?_
        rintro e w2 ⟨rfl, rfl⟩
        go_wp2
        go_ret3
        rw [HT.out]
        exact ⟨rfl, hb⟩
    · have HT : Hid (M.takeT l a m = none) := by show _ = _; unfold M.takeT; rw [hT]; exact if_neg fun h => hA h.1
      have hA' : decide ((n : Int) ≤ m) = false := decide_eq_false hA
      rw [hA'] at hf1
      clear hA hA' hT hr hf2
      obtain ⟨V, hV⟩ : ∃ V : Int, (n : Int) = V := ⟨_, rfl⟩
      rw [hV] at hnum hf1
      clear hV hn64
      go_enter Try.func63, Try.ntmps63
      go_wp2_with fail
      refine hnum.mono ?_
      rintro e w1 ⟨rfl, hb⟩
      go_wp2_with fail
      refine (hf1 _).mono ?_
      rintro e w2 ⟨rfl, rfl⟩
      go_wp2
      go_ret3
      rw [HT.out]
      exact ⟨rfl, hb⟩

end Go.Proofs.Ytadcmljcbmfcaaa.Wi
