/-
  TakeNumber.
-/
import Derived.Test.YtadcmljcbmfcaaaWPut
import Derived.Deep.QuietTactic
import Derived.BigQuiet
namespace Go.Proofs.Ytadcmljcbmfcaaa.Wi
open Go.RowKit

theorem quietL {P : Program} {f : FuncId} {args : Array Value} {w : World} {n : Nat} {v : Value}
    (h : Calls P f args (w.drewN n) fun e w' => e = .returned v ∧ w.drewN n = w') : Calls P f args (w.drewN n) fun e w'' => e = .returned v ∧ ∃ m, w'' = w.drewN m :=
  h.mono fun _ _ ⟨he, hm⟩ => ⟨he, n, hm.symm⟩
theorem below_drewN {B : Nat} {a w : World} (h : Below B a w) (n : Nat) : Below B a (w.drewN n) := by
  induction n with
  | zero => exact h
  | succ n ih => exact ih.drew

/-- What TakeNumber finds. -/
def M.takeN (l : List Nat) (a : Int) : Option (Nat × Nat) := if 0 ≤ a then (M.parse (l.drop a.toNat)).map fun p => (p.1, a.toNat + p.2) else none
def numR : Option (Nat × Nat) → Value
  | none => .tuple #[.int .u64 0, .int .i64 0, .int .i64 20]
  | some (n, p) => .tuple #[.int .u64 (n : Int), .int .i64 (p : Int), .int .i64 0]
theorem takeN_neg (l : List Nat) (a : Int) (h : a < 0) : M.takeN l a = none := if_neg (by omega)
theorem takeN_far (l : List Nat) (a : Int) (h : (l.length : Int) ≤ a) : M.takeN l a = none := by
  unfold M.takeN
  split
  · rw [List.drop_of_length_le (by omega)]; rfl
  · rfl
theorem takeN_cons (l : List Nat) (a : Nat) (h : a < l.length) : M.takeN l a = (M.parse (l[a]?.getD 0 :: l.drop (a + 1))).map fun p => (p.1, a + p.2) := by
  unfold M.takeN
  rw [if_pos (by omega), Int.toNat_natCast, List.drop_eq_getElem_cons h, List.getElem?_eq_getElem h]; rfl
theorem takeN_short (l : List Nat) (a : Nat) (h : a < l.length) (h2 : l.length - (a + 1) < M.ones (l[a]?.getD 0)) : M.takeN l a = none := by
  rw [takeN_cons l a h, M.parse, if_pos (by rw [List.length_drop]; exact h2)]; rfl
/-- The number that stands there, shortest or not. -/
def M.rawN (l : List Nat) (a j : Nat) : Nat := M.unb (l[a]?.getD 0 - M.lead (M.ones (l[a]?.getD 0))) ((l.drop (a + 1)).take j)
theorem takeN_yes (l : List Nat) (a k : Nat) (h : a < l.length) (hk : M.ones (l[a]?.getD 0) = k) (h2 : ¬ l.length - (a + 1) < k) (h3 : M.fol (M.rawN l a k) = k) : M.takeN l a = some (M.rawN l a k, a + 1 + k) := by
  have e : M.unb (l[a]?.getD 0 - M.lead k) ((l.drop (a + 1)).take k) = M.rawN l a k := by unfold M.rawN; rw [hk]
  rw [takeN_cons l a h, M.parse, hk, if_neg (by rw [List.length_drop]; exact h2), e, if_pos h3, Option.map_some, show a + (k + 1) = a + 1 + k by omega]
theorem takeN_not (l : List Nat) (a k : Nat) (h : a < l.length) (hk : M.ones (l[a]?.getD 0) = k) (h2 : ¬ l.length - (a + 1) < k) (h3 : ¬ M.fol (M.rawN l a k) = k) : M.takeN l a = none := by
  rw [takeN_cons l a h, M.parse, hk, if_neg (by rw [List.length_drop]; exact h2), if_neg (fun e => h3 (by unfold M.rawN; rw [hk]; exact e))]
  rfl
theorem rawN_succ (l : List Nat) (a j : Nat) (h : a + 1 + j < l.length) : M.rawN l a (j + 1) = M.rawN l a j * 256 + l[a + 1 + j]?.getD 0 := by
  unfold M.rawN
  have hl : j < (l.drop (a + 1)).length := by rw [List.length_drop]; omega
  rw [List.take_succ_eq_append_getElem hl, M.unb_snoc]
  congr 1
  rw [List.getElem_drop, List.getElem?_eq_getElem h]; rfl
theorem rawN_lt (l : List Nat) (hl : ∀ x ∈ l, x < 256) (a j : Nat) (h : a < l.length) : M.rawN l a j < 2 ^ (7 - M.ones (l[a]?.getD 0) + 8 * j) := by
  have hx : l[a]?.getD 0 < 256 := by rw [List.getElem?_eq_getElem h]; exact hl _ (List.getElem_mem h)
  have h1 := M.unb_lt' ((l.drop (a + 1)).take j) _ _ (fun y hy => hl y (List.mem_of_mem_drop (List.mem_of_mem_take hy))) (M.lead_ones _ hx).2
  refine Nat.lt_of_lt_of_le h1 ?_
  rw [Nat.pow_add, ← M.p256]
  exact Nat.mul_le_mul_left _ (Nat.pow_le_pow_right (by decide) (by rw [List.length_take]; omega))

theorem andNot_num (x : Nat) (h : x < 256) : bits .andNot .u8 (x : Int) ((M.lead (M.ones x) : Nat) : Int) = ((x - M.lead (M.ones x) : Nat) : Int) := by
  rw [u8_andNot_nat x _ h (M.lead_lt _)]
  congr 1
  have : ∀ x, x < 256 → x &&& (255 - M.lead (M.ones x)) = x - M.lead (M.ones x) := by decide +kernel
  exact this x h
theorem or_num (V : Nat) (y : Nat) (hV : V < 72057594037927936) (hy : y < 256) : bits .or .u64 ((V : Int) * 256) (y : Int) = ((V * 256 + y : Nat) : Int) := by
  rw [show (V : Int) * 256 = ((V * 256 : Nat) : Int) by omega, u64_or_nat _ _ (by omega) (by omega)]
  congr 1
  rw [Nat.mul_comm, show 256 = 2 ^ 8 from rfl, Nat.two_pow_add_eq_or_of_lt (show y < 2 ^ 8 from hy)]

set_option maxRecDepth 100000 in
set_option maxHeartbeats 1600000 in
theorem takeNumber_any (A : Option Addr) (c : Nat) (l : List Nat) (a : Int) (w : World) (hr : Row w w.heap.size A l) (hl : l.length ≤ 281474976710656) (ha1 : -9223372036854775808 ≤ a) (ha2 : a ≤ 9223372036854775807) :
    Calls Try.prog 49 #[.slice A l.length c, .int .i64 a] w fun e w' => e = .returned (numR (M.takeN l a)) ∧ Below w.heap.size w w' := by
  by_cases h0 : a < 0
  · rw [takeN_neg l a h0]
    go_enter Try.func49, Try.ntmps49
    go_wp2
    go_ret3
    exact ⟨rfl, Below.refl _ _⟩
  · by_cases h1 : (l.length : Int) ≤ a
    · rw [takeN_far l a h1]
      go_enter Try.func49, Try.ntmps49
      go_wp2
      go_ret3
      exact ⟨rfl, Below.refl _ _⟩
    · obtain ⟨a, rfl⟩ : ∃ n : Nat, a = n := ⟨a.toNat, by omega⟩
      have hal : a < l.length := by omega
      clear ha1 ha2 h0 h1
      obtain ⟨b, off, rfl, hb, hc⟩ := hr.2 (by omega)
      have hx := hr.elem a
      have hca := hc a hal
      have HC := Lib.hid hc
      have H256 := Lib.hid hr.1
      clear hc hr
      obtain ⟨x, hxe⟩ : ∃ x, l[a]?.getD 0 = x := ⟨_, rfl⟩
      rw [hxe] at hx hca
      have hones := fun w => ones_any x w hx
      have hk8 := M.ones_le x hx
      have hnot := andNot_num x hx
      have hraw0 : Hid (((x - M.lead (M.ones x) : Nat) : Int) = ((M.rawN l a 0 : Nat) : Int)) := by show _ = _; unfold M.rawN; rw [hxe]; rfl
      obtain ⟨k, hk⟩ : ∃ k, M.ones x = k := ⟨_, rfl⟩
      rw [hk] at hones hk8 hnot hraw0
      have HK : Hid (M.ones (l[a]?.getD 0) = k) := by show _ = _; rw [hxe]; exact hk
      have hlead := fun w => lead_any k w hk8
      clear hxe hk
      obtain ⟨N, hN⟩ : ∃ N, l.length = N := ⟨_, rfl⟩
      have HN := Lib.hid hN
      rw [hN] at hl hal ⊢
      clear hN
      by_cases hs : N - (a + 1) < k
      · rw [takeN_short l a (by rw [HN.out]; exact hal) (by rw [HN.out, HK.out]; exact hs)]
        go_enter Try.func49, Try.ntmps49
        go_wp2_with (go_at_call 60; refine (hones _).mono ?_; rintro e w' ⟨rfl, rfl⟩)
        go_ret3
        exact ⟨rfl, Below.refl _ _⟩
      · go_enter Try.func49, Try.ntmps49
        go_wp2_with (go_at_call 60; refine (hones _).mono ?_; rintro e w' ⟨rfl, rfl⟩)
        go_quiet ((go_at_call 61; exact quietL (hlead _)))
        go_wp2
        have hBW := below_drewN (Below.refl w.heap.size w) nq
        generalize w.drewN nq = W at *
        clear hnot hlead hones hca
        go_loop [9, 10, 41] (fun s _ x => ∃ (j : Nat) (V : Int), j ≤ k ∧ x = .int .i64 j ∧ s = .int .u64 V ∧ Hid (V = ((M.rawN l a j : Nat) : Int))) (fun _ _ x => k - (intOf x).toNat)
        case atStart => exact ⟨0, _, by omega, rfl, rfl, hraw0.out⟩
        case round =>
          obtain ⟨j, V, hj, rfl, rfl, hV⟩ := hrel
          by_cases hlt : j < k
          · have hlen : a + 1 + j < l.length := by rw [HN.out]; omega
            have hcell := (hBW.cell (p := ⟨b, off + (a + 1 + j), none⟩) hb).trans (HC.out (a + 1 + j) hlen)
            have hy : l[a + 1 + j]?.getD 0 < 256 := by rw [List.getElem?_eq_getElem hlen]; exact H256.out _ (List.getElem_mem hlen)
            have hvl : M.rawN l a j < 72057594037927936 := by
              refine Nat.lt_of_lt_of_le (rawN_lt l H256.out a j (by rw [HN.out]; exact hal)) ?_
              rw [HK.out]
              exact Nat.pow_le_pow_right (n := 2) (by decide) (show 7 - k + 8 * j ≤ 56 by omega)
            have hor := or_num _ _ hvl hy
            rw [← rawN_succ l a j hlen, ← hV.out] at hor
            obtain ⟨V2, hV2⟩ : ∃ V2 : Int, ((M.rawN l a (j + 1) : Nat) : Int) = V2 := ⟨_, rfl⟩
            rw [hV2] at hor
            have HV2 := Lib.hid hV2
            have hwr : IntKind.u64.wrap (V * 256) = V * 256 := by rw [IntKind.wrap_u64, hV.out]; omega
            obtain ⟨y, hye⟩ : ∃ y, l[a + 1 + j]?.getD 0 = y := ⟨_, rfl⟩
            rw [hye] at hcell hy hor
            clear hye hV2 hvl hlen
            have hi1 : (a : Int) + 1 + (j : Int) < (N : Int) := by omega
            go_wp2
            go_round
            case rel => exact ⟨j + 1, V2, by omega, by go_num, rfl, HV2.out.symm⟩
            case measure => simp [intOf]; omega
          · obtain rfl : j = k := by omega
            have hrn : M.rawN l a j < 18446744073709551616 := by
              refine Nat.lt_of_lt_of_le (rawN_lt l H256.out a j (by rw [HN.out]; exact hal)) ?_
              rw [HK.out]
              exact Nat.pow_le_pow_right (n := 2) (by decide) (show 7 - j + 8 * j ≤ 64 by omega)
            have hfol := fun w => following_any (M.rawN l a j) w hrn
            rw [← hV.out] at hfol
            by_cases hf : M.fol (M.rawN l a j) = j
            · have HT : Hid (M.takeN l a = some (M.rawN l a j, a + 1 + j)) := takeN_yes l a j (by rw [HN.out]; exact hal) HK.out (by rw [HN.out]; exact hs) hf
              rw [hf] at hfol
              have hne : ((j : Int) != (j : Int)) = false := by simp
              clear hf hrn
              go_wp2_with (go_at_call 62; refine (hfol _).mono ?_; rintro e w' ⟨rfl, rfl⟩)
              go_ret3
              rw [HT.out]
              exact ⟨by rw [hV.out]; rfl, hBW⟩
            · have HT : Hid (M.takeN l a = none) := takeN_not l a j (by rw [HN.out]; exact hal) HK.out (by rw [HN.out]; exact hs) hf
              have hne : (((M.fol (M.rawN l a j) : Nat) : Int) != (j : Int)) = true := by simp; omega
              clear hf hrn
              go_wp2_with (go_at_call 62; refine (hfol _).mono ?_; rintro e w' ⟨rfl, rfl⟩)
              go_ret3
              rw [HT.out]
              exact ⟨rfl, hBW⟩
end Go.Proofs.Ytadcmljcbmfcaaa.Wi
