/-
  KeysOrder: the walk of the law.
-/
import Derived.Test.YtccjdajneoploaaOpen
import Derived.Test.YtccjdajneoploaaRead
namespace Go.Proofs.Ytccjdajneoploaa.keysOrder
open Go.RowKit

set_option maxRecDepth 100000 in
set_option maxHeartbeats 1600000 in
theorem walk (A : Option Addr) (c : Nat) (l : List Part) (B : Option Addr) (d : Nat) (m : List Part) (w : World) (hr : RowP w w.heap.size A l) (hl : l.length ≤ 140737488351232) (_hc : l.length ≤ c) (hr2 : RowP w w.heap.size B m) (hl2 : m.length ≤ 140737488351232) (_hd : m.length ≤ d) :
    Calls Try.prog 6 #[.slice A l.length c, .slice B m.length d] w fun e w' => e = .returned (.bool true) ∧ Below w.heap.size w w' := by
  have h1 := fun w h => lay_any A c l w h hl
  have h2 := fun w h => lay_any B d m w h hl2
  have hn1 := hr.1
  have hn2 := hr2.1
  have HR := Lib.hid hr
  have HR2 := Lib.hid hr2
  clear hr hr2
  cases ha : M.right l with
  | false =>
    simp only [layR_no ha] at h1
    obtain ⟨T, z, hT⟩ : ∃ T z, layR m = .tuple #[.string T, .int .i64 z] := by
      unfold layR; split
      · exact ⟨_, _, rfl⟩
      · exact ⟨_, _, rfl⟩
    simp only [hT] at h2
    clear ha hT
    go_enter Try.func6, Try.ntmps6
    go_wp2_with fail
    refine (shown_any _).mono ?_
    rintro e w1 ⟨rfl, hb1⟩
    go_wp2_with fail
    refine (h1 _ (HR.out.up hb1)).mono ?_
    rintro e w2 ⟨rfl, hb2⟩
    have hB2 : Below w.heap.size w w2 := hb1.trans (hb2.mono hb1.size)
    go_wp2_with fail
    refine (h2 _ (HR2.out.up hB2)).mono ?_
    rintro e w3 ⟨rfl, hb3⟩
    have HB3 : Hid (Below w.heap.size w w3) := hB2.trans (hb3.mono hB2.size)
    clear hB2 hb3 hb2 hb1 h1 h2
    go_wp2
    go_ret
    exact ⟨rfl, HB3.out⟩
  | true =>
    cases hb : M.right m with
    | false =>
      simp only [layR_yes ha] at h1
      simp only [layR_no hb] at h2
      obtain ⟨T, hT⟩ : ∃ T, strB (M.enc l) = T := ⟨_, rfl⟩
      simp only [hT] at h1
      clear ha hb hT
      go_enter Try.func6, Try.ntmps6
      go_wp2_with fail
      refine (shown_any _).mono ?_
      rintro e w1 ⟨rfl, hb1⟩
      go_wp2_with fail
      refine (h1 _ (HR.out.up hb1)).mono ?_
      rintro e w2 ⟨rfl, hb2⟩
      have hB2 : Below w.heap.size w w2 := hb1.trans (hb2.mono hb1.size)
      go_wp2_with fail
      refine (h2 _ (HR2.out.up hB2)).mono ?_
      rintro e w3 ⟨rfl, hb3⟩
      have HB3 : Hid (Below w.heap.size w w3) := hB2.trans (hb3.mono hB2.size)
      clear hB2 hb3 hb2 hb1 h1 h2
      go_wp2
      go_ret
      exact ⟨rfl, HB3.out⟩
    | true =>
      simp only [layR_yes ha] at h1
      simp only [layR_yes hb] at h2
      have h3 := fun w h h' => compare_any A c l B d m w h hl h' hl2
      have e1 : Op.bytesLess (strB (M.enc l)).toList (strB (M.enc m)).toList = decide (M.cmpL l m < 0) := by
        rw [less_str, byt_strB _ (M.enc_lt l), byt_strB _ (M.enc_lt m), M.cmpB_enc l m hn1 hn2]
      have e2 : ((strB (M.enc l)).toList == (strB (M.enc m)).toList) = decide (M.cmpL l m = 0) := by
        rw [same_str, byt_strB _ (M.enc_lt l), byt_strB _ (M.enc_lt m), M.cmpB_enc l m hn1 hn2]
      have HV : Hid (M.readV (byt (strB (M.enc l))) = some l) := by
        show _ = _
        rw [byt_strB _ (M.enc_lt l)]; exact M.readV_enc l ha hn1
      have hsz : (strB (M.enc l)).size ≤ 140737488355328 := by
        rw [strB_size]
        have := M.enc_len l (List.all_eq_true.2 (right_all ha).1)
        have := (right_all ha).2.2
        omega
      obtain ⟨S, hS⟩ : ∃ S, strB (M.enc l) = S := ⟨_, rfl⟩
      obtain ⟨T, hT⟩ : ∃ T, strB (M.enc m) = T := ⟨_, rfl⟩
      obtain ⟨z, hz⟩ : ∃ z, M.cmpL l m = z := ⟨_, rfl⟩
      simp only [hS, hT, hz] at h1 h2 h3 e1 e2 HV hsz
      clear ha hb hS hT hz hn1 hn2
      have E1 := Lib.hid e1
      have E2 := Lib.hid e2
      clear e1 e2
      go_enter Try.func6, Try.ntmps6
      go_wp2_with fail
      refine (shown_any _).mono ?_
      rintro e w1 ⟨rfl, hb1⟩
      go_wp2_with fail
      refine (h1 _ (HR.out.up hb1)).mono ?_
      rintro e w2 ⟨rfl, hb2⟩
      have hB2 : Below w.heap.size w w2 := hb1.trans (hb2.mono hb1.size)
      go_wp2_with fail
      refine (h2 _ (HR2.out.up hB2)).mono ?_
      rintro e w3 ⟨rfl, hb3⟩
      have HB3 : Hid (Below w.heap.size w w3) := hB2.trans (hb3.mono hB2.size)
      clear hB2 hb3 hb2 hb1 h1 h2
      go_wp2_with fail
      refine (h3 _ (HR.out.up HB3.out) (HR2.out.up HB3.out)).mono ?_
      rintro e w4 ⟨rfl, hb4⟩
      have HB4 : Hid (Below w.heap.size w w4) := HB3.out.trans (hb4.mono HB3.out.size)
      clear hb4 h3
      go_wp2_with fail
      refine (read_any S _ hsz).mono ?_
      rintro e w5 ⟨(⟨l', A', c', hv, rfl, hr'⟩ | ⟨hv, rfl⟩), hb5⟩
      · obtain rfl : l' = l := by have := HV.out; rw [hv] at this; injection this
        have HB5 : Hid (Below w.heap.size w w5) := HB4.out.trans (hb5.mono HB4.out.size)
        have h6 := same_any A' c' l' A c w5 hr' hl (HR.out.up HB5.out)
        clear hb5 hv hr'
        rcases Int.lt_trichotomy z 0 with h | h | h
        · have e1 : Op.bytesLess S.toList T.toList = true := by rw [E1.out]; exact decide_eq_true h
          have e2 : (S.toList == T.toList) = false := by rw [E2.out]; exact decide_eq_false (by omega)
          have e3 : (z == 0) = false := beq_eq_false_iff_ne.2 (by omega)
          go_wp2_with (go_at_call 16; refine h6.mono ?_; rintro e w6 ⟨rfl, hb6⟩)
          go_ret
          exact ⟨ret_bool (by simp), HB5.out.trans (hb6.mono HB5.out.size)⟩
        · subst h
          have e1 : Op.bytesLess S.toList T.toList = false := by rw [E1.out]; rfl
          have e2 : (S.toList == T.toList) = true := by rw [E2.out]; rfl
          go_wp2_with (go_at_call 16; refine h6.mono ?_; rintro e w6 ⟨rfl, hb6⟩)
          go_ret
          exact ⟨ret_bool (by simp), HB5.out.trans (hb6.mono HB5.out.size)⟩
        · have e1 : Op.bytesLess S.toList T.toList = false := by rw [E1.out]; exact decide_eq_false (by omega)
          have e2 : (S.toList == T.toList) = false := by rw [E2.out]; exact decide_eq_false (by omega)
          have e3 : (z == 0) = false := beq_eq_false_iff_ne.2 (by omega)
          have e4 : decide (z < 0) = false := decide_eq_false (by omega)
          go_wp2_with (go_at_call 16; refine h6.mono ?_; rintro e w6 ⟨rfl, hb6⟩)
          go_ret
          exact ⟨ret_bool (by simp), HB5.out.trans (hb6.mono HB5.out.size)⟩
      · rw [HV.out] at hv; cases hv
end Go.Proofs.Ytccjdajneoploaa.keysOrder
