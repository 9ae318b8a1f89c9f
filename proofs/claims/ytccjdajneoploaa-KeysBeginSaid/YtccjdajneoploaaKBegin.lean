/-
  KeysBegin: the walk of the law.
-/
import Derived.Test.YtccjdajneoploaaOpen
namespace Go.Proofs.Ytccjdajneoploaa.keysBegin
open Go.RowKit

theorem row_take {w : World} {B : Nat} {A : Option Addr} {l : List Part} (h : RowP w B A l) (k : Nat) : RowP w B A (l.take k) := by
  refine ⟨fun p hp => h.1 p (List.mem_of_mem_take hp), fun hn => ?_⟩
  rw [List.length_take] at hn
  obtain ⟨b, off, e, hb, hc⟩ := h.2 (by omega)
  refine ⟨b, off, e, hb, fun j p hj => hc j p ?_⟩
  rw [List.getElem?_take] at hj
  split at hj
  · exact hj
  · cases hj
theorem right_take {l : List Part} {k : Nat} (h : M.right l = true) (h1 : 1 ≤ k) : M.right (l.take k) = true := by
  obtain ⟨g1, g2, g3⟩ := right_all h
  simp only [M.right, Bool.and_eq_true, decide_eq_true_eq, List.all_eq_true, List.length_take]
  exact ⟨fun p hp => g1 p (List.mem_of_mem_take hp), by omega, by omega⟩
theorem facts (l : List Part) (k : Nat) (h : M.right l = true) (h1 : 1 ≤ k) : (strB (M.enc (l.take k))).size ≤ (strB (M.enc l)).size ∧ (strB (M.enc l)).extract 0 (strB (M.enc (l.take k))).size = strB (M.enc (l.take k)) ∧
    ∃ U, behR (strB (M.enc (l.take k))) = .tuple #[.string U, .bool true] ∧ Op.bytesLess (strB (M.enc l)).toList U.toList = true := by
  have e : M.enc l = M.enc (l.take k) ++ M.enc (l.drop k) := by rw [← M.enc_append, List.take_append_drop]
  obtain ⟨_, g2, _⟩ := right_all h
  have hb : byt (strB (M.enc (l.take k))) = M.enc (l.take k) := byt_strB _ (M.enc_lt _)
  have hc : 0 < M.cut (M.enc (l.take k)) := by
    obtain ⟨p, t, ht⟩ : ∃ p t, l.take k = p :: t := by
      cases hh : l.take k with
      | nil => have := congrArg List.length hh; rw [List.length_take, List.length_nil] at this; omega
      | cons p t => exact ⟨p, t, rfl⟩
    rw [ht, M.enc_cons]
    unfold M.enc1
    split
    · exact M.cut_pos _ _ (by decide)
    · exact M.cut_pos _ _ (by decide)
  refine ⟨?_, ?_, strB (M.behind (M.enc (l.take k))), ?_, ?_⟩
  · rw [strB_size, strB_size, e]; simp
  · refine byt_inj ?_
    rw [byt_extract, byt_strB _ (M.enc_lt _), strB_size, hb, e, List.take_left]
  · unfold behR
    rw [hb, if_pos hc]
  · rw [less_str, byt_strB _ (M.enc_lt _), byt_strB _ (M.behind_lt _ (M.enc_lt _) hc), ← M.less_cmp]
    conv => lhs; rw [e]
    exact M.less_behind _ _ hc

set_option maxRecDepth 100000 in
set_option maxHeartbeats 1600000 in
theorem walk (A : Option Addr) (c : Nat) (l : List Part) (n : Int) (w : World) (hr : RowP w w.heap.size A l) (hl : l.length ≤ 140737488351232) (hc : l.length ≤ c) (_hn : -9223372036854775808 ≤ n ∧ n ≤ 9223372036854775807) :
    Calls Try.prog 8 #[.slice A l.length c, .int .i64 n] w fun e w' => e = .returned (.bool true) ∧ Below w.heap.size w w' := by
  have h1 := fun w h => lay_any A c l w h hl
  have HR := Lib.hid hr
  clear hr
  cases hri : M.right l with
  | false =>
    simp only [layR_no hri] at h1
    clear hri
    go_enter Try.func8, Try.ntmps8
    go_wp2_with fail
    refine (shown_any _).mono ?_
    rintro e w1 ⟨rfl, hb1⟩
    go_wp2_with fail
    refine (h1 _ (HR.out.up hb1)).mono ?_
    rintro e w2 ⟨rfl, hb2⟩
    have HB2 : Hid (Below w.heap.size w w2) := hb1.trans (hb2.mono hb1.size)
    clear hb1 hb2 h1
    go_wp2
    go_ret
    exact ⟨rfl, HB2.out⟩
  | true =>
    simp only [layR_yes hri] at h1
    have HF := fun k h => facts l k hri h
    have HT := fun k h => right_take (k := k) hri h
    obtain ⟨S, hS⟩ : ∃ S, strB (M.enc l) = S := ⟨_, rfl⟩
    simp only [hS] at h1 HF
    have hl8 := (right_all hri).2.2
    clear hri hS
    by_cases hn1 : n < 1
    · go_enter Try.func8, Try.ntmps8
      go_wp2_with fail
      refine (shown_any _).mono ?_
      rintro e w1 ⟨rfl, hb1⟩
      go_wp2_with fail
      refine (h1 _ (HR.out.up hb1)).mono ?_
      rintro e w2 ⟨rfl, hb2⟩
      have HB2 : Hid (Below w.heap.size w w2) := hb1.trans (hb2.mono hb1.size)
      clear hb1 hb2 h1 HF HT
      go_wp2
      go_ret
      exact ⟨rfl, HB2.out⟩
    · obtain ⟨k, rfl⟩ : ∃ k : Nat, n = k := ⟨n.toNat, by omega⟩
      by_cases hn2 : l.length < k
      · go_enter Try.func8, Try.ntmps8
        go_wp2_with fail
        refine (shown_any _).mono ?_
        rintro e w1 ⟨rfl, hb1⟩
        go_wp2_with fail
        refine (h1 _ (HR.out.up hb1)).mono ?_
        rintro e w2 ⟨rfl, hb2⟩
        have HB2 : Hid (Below w.heap.size w w2) := hb1.trans (hb2.mono hb1.size)
        clear hb1 hb2 h1 HF HT
        go_wp2
        go_ret
        exact ⟨rfl, HB2.out⟩
      · have h2 := fun w h => lay_any A c (l.take k) w h (by rw [List.length_take]; omega)
        simp only [layR_yes (HT k (by omega)), show (l.take k).length = k by rw [List.length_take]; omega] at h2
        obtain ⟨f1, f2, U, f3, f4⟩ := HF k (by omega)
        obtain ⟨T, hT⟩ : ∃ T, strB (M.enc (l.take k)) = T := ⟨_, rfl⟩
        have hTl : T.size ≤ 8216 := by
          rw [← hT, strB_size]
          exact enc_take_len (right_all (HT k (by omega))).1 k (by rw [List.length_take]; omega) |> fun h => by rwa [List.take_take, Nat.min_self] at h
        simp only [hT] at h2 f1 f2 f3
        have h3 := fun w => behind_any T w (by omega)
        simp only [f3] at h3
        have hk1 : ¬ (k : Int) < 1 := hn1
        have hkc : k ≤ c := by omega
        clear f3 hT HF HT
        go_enter Try.func8, Try.ntmps8
        go_wp2_with fail
        refine (shown_any _).mono ?_
        rintro e w1 ⟨rfl, hb1⟩
        go_wp2_with fail
        refine (h1 _ (HR.out.up hb1)).mono ?_
        rintro e w2 ⟨rfl, hb2⟩
        have HB2 : Hid (Below w.heap.size w w2) := hb1.trans (hb2.mono hb1.size)
        clear hb1 hb2 h1
        go_wp2_with fail
        refine (h2 _ (row_take (HR.out.up HB2.out) k)).mono ?_
        rintro e w3 ⟨rfl, hb3⟩
        have HB3 : Hid (Below w.heap.size w w3) := HB2.out.trans (hb3.mono HB2.out.size)
        clear hb3 h2
        go_wp2_with fail
        refine (h3 _).mono ?_
        rintro e w4 ⟨rfl, hb4⟩
        have HB4 : Hid (Below w.heap.size w w4) := HB3.out.trans (hb4.mono HB3.out.size)
        clear hb4 h3
        go_wp2
        go_ret
        exact ⟨ret_bool (by simp), HB4.out⟩
end Go.Proofs.Ytccjdajneoploaa.keysBegin
