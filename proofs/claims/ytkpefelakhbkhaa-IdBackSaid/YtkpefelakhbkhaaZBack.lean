/-
  IdBack: the walk of the law.
  The law IdBack answers true for every input, and leaves what it was given as it was. Conditions: none beside the form's own.
-/
import Derived.Test.YtkpefelakhbkhaaZLay
import Derived.Test.YtkpefelakhbkhaaZTake
import Derived.Test.YtkpefelakhbkhaaIShown
import Derived.Test.YtkpefelakhbkhaaIParse
import Derived.Test.YtkpefelakhbkhaaIGate
namespace Go.Proofs.Ytkpefelakhbkhaa.I
open Go.RowKit

theorem back_take (t : Tr) (h : fit t = some t) : takeR (M.putL [] 0 (bitsT t.norm)) ((0 + (bitsT t.norm).length : Nat) : Int) 0 = (t.norm, ((0 + (bitsT t.norm).length : Nat) : Int), 0) := by
  obtain ⟨_, h1, h2⟩ := fit_eq (fit_norm h)
  have hb : ∀ b ∈ bitsT t.norm, b < 2 := bits_lt t.norm
  have hV : M.Valid (M.putL [] 0 (bitsT t.norm)) (0 + (bitsT t.norm).length) := M.valid_of_inv (M.put_inv _ M.inv_nil hb)
  have hr : rb (M.bitAt (M.putL [] 0 (bitsT t.norm))) (0 + (bitsT t.norm).length) 33 0 = some (t.norm, 0 + (bitsT t.norm).length) :=
    rb_of _ _ t.norm 33 0 (by omega) (fun i _ => by rw [M.put_bits _ M.inv_nil hb, if_neg (by omega)]; simp) (by omega)
  have ht := (takeO_iff _ (M.bitAt_lt _) _ 0 t.norm _).2 ⟨hr, norm_norm t, h2⟩
  unfold takeR
  rw [if_pos ⟨M.rightB_nat hV, by omega, by omega⟩, Int.toNat_natCast, Int.toNat_zero, ht]
theorem back_text (t : Tr) (h : fit t = some t) : parseT (strB (textT t.norm)) = some t.norm := by
  obtain ⟨_, h1, h2⟩ := fit_eq (fit_norm h)
  exact (parseT_iff _ _).2 ⟨byt_strB _ (text_small _), norm_norm t, h1, h2⟩
theorem back_size (t : Tr) (h : fit t = some t) : (strB (textT t.norm)).size ≤ 140737488355328 := by
  obtain ⟨_, h1, h2⟩ := fit_eq (fit_norm h)
  have e : (byt (strB (textT t.norm))).length = (strB (textT t.norm)).size := byt_length _
  rw [byt_strB _ (text_small _)] at e
  have := text_len t.norm
  omega
theorem back_show {s : ByteArray} {t : Tr} (h : parseT s = some t) : fit t = some t ∧ showR (some t) = .tuple #[.string s, .int .i64 0] := by
  obtain ⟨h1, h2, h3, h4⟩ := (parseT_iff _ _).1 h
  refine ⟨fit_of h3 h4, ?_⟩
  unfold showR
  simp only [h2]
  rw [← h1, strB_byt]
set_option maxRecDepth 100000 in
set_option maxHeartbeats 6400000 in
theorem back_walk (T : Option Tr) (v : Value) (s : ByteArray) (w : World) (hv : Arg w T v) (hs : s.size ≤ 140737488351232) : Calls Try.prog 10 #[v, .string s] w fun e w' => e = .returned (.bool true) ∧ Below w.heap.size w w' := by
  obtain ⟨o, A, n, c, rfl⟩ := hv.form
  have HX := Lib.hid ((XS.begin w).boxed (.bool o) (.slice A n c))
  simp only [List.nil_append] at HX
  have HV := Lib.hid hv
  clear hv
  unfold tv
  go_enter Try.func10, Try.ntmps10
  go_wp2_with fail
  refine (shown_any _).mono ?_
  rintro e w1 ⟨rfl, hb1⟩
  have HX1 := Lib.hid (HX.out.next hb1)
  clear hb1 HX
  have hcall := parse_any s w1 (by omega)
  unfold tv at hcall
  go_wp2_with fail
  refine hcall.mono ?_
  rintro e w2 ⟨v2, rfl, h2, hb2⟩
  obtain ⟨o2, A2, n2, c2, rfl⟩ := h2.form
  have HX2 := Lib.hid ((HX1.out.next hb2).boxed (.bool o2) (.slice A2 n2 c2))
  simp only [List.nil_append, List.cons_append] at HX2
  have hd2 : Below w2.heap.size w2 (w2.alloc (.cells #[.bool o2, .slice A2 n2 c2] 24)) := (Below.refl _ w2).alloc (Nat.le_refl _) _
  have T2 := Lib.hid (h2.up hd2)
  clear hcall HX1 h2 hb2 hd2
  unfold tv
  cases hps : parseT s with
  | none =>
    rw [show parseR none = (.leaf false, 40) from rfl]
    have HX3 := Lib.hid HX2.out
    clear hps T2 HX2
    have f := HX3.out.at0
    simp only [List.mem_cons, List.not_mem_nil, or_false, forall_eq_or_imp, forall_eq] at f
    obtain ⟨⟨p0, q0, _⟩, p1, q1, _⟩ := f
    have hc := norm_arg (HV.out.up HX3.out.bel)
    unfold tv at hc
    go_wp2_with fail
    refine hc.mono ?_
    rintro e w4 ⟨v4, rfl, h4, hb4⟩
    obtain ⟨o4, A4, n4, c4, rfl⟩ := h4.form
    have HX4 := Lib.hid ((HX3.out.next hb4).boxed (.bool o4) (.slice A4 n4 c4))
    simp only [List.nil_append, List.cons_append] at HX4
    have hd4 : Below w4.heap.size w4 (w4.alloc (.cells #[.bool o4, .slice A4 n4 c4] 24)) := (Below.refl _ w4).alloc (Nat.le_refl _) _
    have T4 := Lib.hid (h4.up hd4)
    clear hc HX3 h4 hb4 hd4 p0 q0 p1 q1
    unfold tv
    cases T with
    | none =>
      rw [show normR none = (.leaf false, 2) from rfl]
      clear T4
      go_wp2
      go_ret
      exact ⟨ret_bool (by simp), HX4.out.bel⟩
    | some t =>
      have hft := HV.out.fit
      have HTX := Lib.hid (back_text t hft)
      have HTK := Lib.hid (back_take t hft)
      have HSZ := Lib.hid (back_size t hft)
      have HBL : Hid ((M.putL [] 0 (bitsT t.norm)).length ≤ 140737488355328 ∧ 0 + (bitsT t.norm).length ≤ 3071) := by
        obtain ⟨_, h1, h2⟩ := fit_eq (fit_norm hft)
        have h3 := bits_len t.norm
        have h4 := put_len (l := []) (n := 0) ⟨rfl, fun h => absurd rfl h⟩ (bitsT t.norm)
        simp only [List.length_nil] at h4
        exact ⟨by omega, by omega⟩
      clear hft
      rw [show normR (some t) = (t.norm, 0) from rfl] at *
      simp only at T4
      obtain ⟨S, hS⟩ : ∃ S, strB (textT t.norm) = S := ⟨_, rfl⟩
      rw [hS] at HTX HSZ
      obtain ⟨L, hL⟩ : ∃ L, M.putL [] 0 (bitsT t.norm) = L := ⟨_, rfl⟩
      obtain ⟨N, hN⟩ : ∃ N, 0 + (bitsT t.norm).length = N := ⟨_, rfl⟩
      rw [hL, hN] at HTK HBL
      have f := HX4.out.at0
      simp only [List.mem_cons, List.not_mem_nil, or_false, forall_eq_or_imp, forall_eq] at f
      obtain ⟨⟨p0, q0, _⟩, ⟨p1, q1, _⟩, p2, q2, _⟩ := f
      have hc := show_arg (HV.out.up HX4.out.bel)
      rw [show showR (some t) = .tuple #[.string (strB (textT t.norm)), .int .i64 0] from rfl, hS] at hc
      unfold tv at hc
      clear hS
      go_wp2_with fail
      refine hc.mono ?_
      rintro e w5 ⟨rfl, hb5⟩
      have HX5 := Lib.hid (HX4.out.next hb5)
      have T5 := Lib.hid (T4.out.up hb5)
      clear hc hb5 HX4 T4 p0 q0 p1 q1 p2 q2
      have hc := parse_any S w5 HSZ.out
      rw [HTX.out, show parseR (some t.norm) = (t.norm, 0) from rfl] at hc
      go_wp2_with fail
      refine hc.mono ?_
      rintro e w6 ⟨v6, rfl, h6, hb6⟩
      obtain ⟨o6, A6, n6, c6, rfl⟩ := h6.form
      have HX6 := Lib.hid ((HX5.out.next hb6).boxed (.bool o6) (.slice A6 n6 c6))
      simp only [List.nil_append, List.cons_append] at HX6
      have hd6 : Below w6.heap.size w6 (w6.alloc (.cells #[.bool o6, .slice A6 n6 c6] 24)) := (Below.refl _ w6).alloc (Nat.le_refl _) _
      have T6 := Lib.hid ((T5.out.up hb6).up hd6)
      have U6 := Lib.hid (h6.up hd6)
      simp only at U6
      clear hc HX5 T5 h6 hb6 hd6 HTX HSZ
      unfold tv
      have f := HX6.out.at0
      simp only [List.mem_cons, List.not_mem_nil, or_false, forall_eq_or_imp, forall_eq] at f
      obtain ⟨⟨p0, q0, _⟩, ⟨p1, q1, _⟩, ⟨p2, q2, _⟩, p3, q3, _⟩ := f
      have hc := lay_tree none 0 [] 0 (some t) _ (w6.alloc (.cells #[.bool o6, .slice A6 n6 c6] 24)) (Go.Proofs.Ytkpefelakhbkhaa.Row.none_ _ _ _) (by simp) (by omega) (by omega) (HV.out.up HX6.out.bel)
      have hlo : layO [] 0 (some t) = some (L, N) := by rw [← hL, ← hN]; rfl
      rw [hlo] at hc
      unfold tv at hc
      simp only [List.length_nil] at hc
      clear hlo hL hN
      go_wp2_with fail
      refine hc.mono ?_
      rintro e w7 ⟨⟨A7, c7, rfl, hr7⟩, hb7⟩
      simp only at hr7 ⊢
      have HX7 := Lib.hid (HX6.out.next hb7)
      have T7 := Lib.hid (T6.out.up hb7)
      have U7 := Lib.hid (U6.out.up hb7)
      clear hc hb7 HX6 T6 U6 p0 q0 p1 q1 p2 q2 p3 q3
      have hc := take_tree A7 c7 L (N : Int) 0 w7 hr7 HBL.out.1 (by omega) (by have := HBL.out.2; omega)
      rw [HTK.out] at hc
      clear hr7
      go_wp2_with fail
      refine hc.mono ?_
      rintro e w8 ⟨v8, rfl, h8, hb8⟩
      obtain ⟨o8, A8, n8, c8, rfl⟩ := h8.form
      have HX8 := Lib.hid ((HX7.out.next hb8).boxed (.bool o8) (.slice A8 n8 c8))
      simp only [List.nil_append, List.cons_append] at HX8
      have hd8 : Below w8.heap.size w8 (w8.alloc (.cells #[.bool o8, .slice A8 n8 c8] 24)) := (Below.refl _ w8).alloc (Nat.le_refl _) _
      have T8 := Lib.hid ((T7.out.up hb8).up hd8)
      have U8 := Lib.hid ((U7.out.up hb8).up hd8)
      have V8 := Lib.hid (h8.up hd8)
      simp only at V8
      clear hc HX7 T7 U7 h8 hb8 hd8 HTK
      unfold tv
      have f := HX8.out.at0
      simp only [List.mem_cons, List.not_mem_nil, or_false, forall_eq_or_imp, forall_eq] at f
      obtain ⟨⟨p0, q0, _⟩, ⟨p1, q1, _⟩, ⟨p2, q2, _⟩, ⟨p3, q3, _⟩, p4, q4, _⟩ := f
      have hce := equal_any _ _ _ _ _ T8.out U8.out
      rw [eqT_refl] at hce
      unfold tv at hce
      go_wp2_with fail
      refine hce.mono ?_
      rintro e w9 ⟨rfl, hb9⟩
      have HX9 := Lib.hid (HX8.out.next hb9)
      have hce := equal_any _ _ _ _ _ (T8.out.up hb9) (V8.out.up hb9)
      rw [eqT_refl] at hce
      unfold tv at hce
      clear hb9 HX8 T8 U8 V8 p0 q0 p1 q1 p2 q2 p3 q3 p4 q4
      have f := HX9.out.at0
      simp only [List.mem_cons, List.not_mem_nil, or_false, forall_eq_or_imp, forall_eq] at f
      obtain ⟨⟨p0, q0, _⟩, ⟨p1, q1, _⟩, ⟨p2, q2, _⟩, ⟨p3, q3, _⟩, p4, q4, _⟩ := f
      go_wp2_with fail
      refine hce.mono ?_
      rintro e w10 ⟨rfl, hb10⟩
      have HX10 := Lib.hid (HX9.out.next hb10)
      clear hb10 HX9 p0 q0 p1 q1 p2 q2 p3 q3 p4 q4
      go_wp2
      go_ret
      exact ⟨ret_bool (by simp), HX10.out.bel⟩
  | some t2 =>
    obtain ⟨hf2, hs2⟩ := back_show hps
    rw [show parseR (some t2) = (t2, 0) from rfl]
    rw [hps, show parseR (some t2) = (t2, 0) from rfl] at T2
    simp only at T2
    have hsh := show_arg (arg_of T2.out)
    rw [hf2, hs2] at hsh
    unfold tv at hsh
    have f := HX2.out.at0
    simp only [List.mem_cons, List.not_mem_nil, or_false, forall_eq_or_imp, forall_eq] at f
    obtain ⟨⟨p0, q0, _⟩, p1, q1, _⟩ := f
    have hSS : (s.toList == s.toList) = true := by simp
    clear hps hf2 hs2 T2
    go_wp2_with fail
    refine hsh.mono ?_
    rintro e w3 ⟨rfl, hb3⟩
    have HX3 := Lib.hid (HX2.out.next hb3)
    clear hb3 HX2 hsh p0 q0 p1 q1
    have f := HX3.out.at0
    simp only [List.mem_cons, List.not_mem_nil, or_false, forall_eq_or_imp, forall_eq] at f
    obtain ⟨⟨p0, q0, _⟩, p1, q1, _⟩ := f
    have hc := norm_arg (HV.out.up HX3.out.bel)
    unfold tv at hc
    go_wp2_with fail
    refine hc.mono ?_
    rintro e w4 ⟨v4, rfl, h4, hb4⟩
    obtain ⟨o4, A4, n4, c4, rfl⟩ := h4.form
    have HX4 := Lib.hid ((HX3.out.next hb4).boxed (.bool o4) (.slice A4 n4 c4))
    simp only [List.nil_append, List.cons_append] at HX4
    have hd4 : Below w4.heap.size w4 (w4.alloc (.cells #[.bool o4, .slice A4 n4 c4] 24)) := (Below.refl _ w4).alloc (Nat.le_refl _) _
    have T4 := Lib.hid (h4.up hd4)
    clear hc HX3 h4 hb4 hd4 p0 q0 p1 q1
    unfold tv
    cases T with
    | none =>
      rw [show normR none = (.leaf false, 2) from rfl]
      clear T4
      go_wp2
      go_ret
      exact ⟨ret_bool (by simp), HX4.out.bel⟩
    | some t =>
      have hft := HV.out.fit
      have HTX := Lib.hid (back_text t hft)
      have HTK := Lib.hid (back_take t hft)
      have HSZ := Lib.hid (back_size t hft)
      have HBL : Hid ((M.putL [] 0 (bitsT t.norm)).length ≤ 140737488355328 ∧ 0 + (bitsT t.norm).length ≤ 3071) := by
        obtain ⟨_, h1, h2⟩ := fit_eq (fit_norm hft)
        have h3 := bits_len t.norm
        have h4 := put_len (l := []) (n := 0) ⟨rfl, fun h => absurd rfl h⟩ (bitsT t.norm)
        simp only [List.length_nil] at h4
        exact ⟨by omega, by omega⟩
      clear hft
      rw [show normR (some t) = (t.norm, 0) from rfl] at *
      simp only at T4
      obtain ⟨S, hS⟩ : ∃ S, strB (textT t.norm) = S := ⟨_, rfl⟩
      rw [hS] at HTX HSZ
      obtain ⟨L, hL⟩ : ∃ L, M.putL [] 0 (bitsT t.norm) = L := ⟨_, rfl⟩
      obtain ⟨N, hN⟩ : ∃ N, 0 + (bitsT t.norm).length = N := ⟨_, rfl⟩
      rw [hL, hN] at HTK HBL
      have f := HX4.out.at0
      simp only [List.mem_cons, List.not_mem_nil, or_false, forall_eq_or_imp, forall_eq] at f
      obtain ⟨⟨p0, q0, _⟩, ⟨p1, q1, _⟩, p2, q2, _⟩ := f
      have hc := show_arg (HV.out.up HX4.out.bel)
      rw [show showR (some t) = .tuple #[.string (strB (textT t.norm)), .int .i64 0] from rfl, hS] at hc
      unfold tv at hc
      clear hS
      go_wp2_with fail
      refine hc.mono ?_
      rintro e w5 ⟨rfl, hb5⟩
      have HX5 := Lib.hid (HX4.out.next hb5)
      have T5 := Lib.hid (T4.out.up hb5)
      clear hc hb5 HX4 T4 p0 q0 p1 q1 p2 q2
      have hc := parse_any S w5 HSZ.out
      rw [HTX.out, show parseR (some t.norm) = (t.norm, 0) from rfl] at hc
      go_wp2_with fail
      refine hc.mono ?_
      rintro e w6 ⟨v6, rfl, h6, hb6⟩
      obtain ⟨o6, A6, n6, c6, rfl⟩ := h6.form
      have HX6 := Lib.hid ((HX5.out.next hb6).boxed (.bool o6) (.slice A6 n6 c6))
      simp only [List.nil_append, List.cons_append] at HX6
      have hd6 : Below w6.heap.size w6 (w6.alloc (.cells #[.bool o6, .slice A6 n6 c6] 24)) := (Below.refl _ w6).alloc (Nat.le_refl _) _
      have T6 := Lib.hid ((T5.out.up hb6).up hd6)
      have U6 := Lib.hid (h6.up hd6)
      simp only at U6
      clear hc HX5 T5 h6 hb6 hd6 HTX HSZ
      unfold tv
      have f := HX6.out.at0
      simp only [List.mem_cons, List.not_mem_nil, or_false, forall_eq_or_imp, forall_eq] at f
      obtain ⟨⟨p0, q0, _⟩, ⟨p1, q1, _⟩, ⟨p2, q2, _⟩, p3, q3, _⟩ := f
      have hc := lay_tree none 0 [] 0 (some t) _ (w6.alloc (.cells #[.bool o6, .slice A6 n6 c6] 24)) (Go.Proofs.Ytkpefelakhbkhaa.Row.none_ _ _ _) (by simp) (by omega) (by omega) (HV.out.up HX6.out.bel)
      have hlo : layO [] 0 (some t) = some (L, N) := by rw [← hL, ← hN]; rfl
      rw [hlo] at hc
      unfold tv at hc
      simp only [List.length_nil] at hc
      clear hlo hL hN
      go_wp2_with fail
      refine hc.mono ?_
      rintro e w7 ⟨⟨A7, c7, rfl, hr7⟩, hb7⟩
      simp only at hr7 ⊢
      have HX7 := Lib.hid (HX6.out.next hb7)
      have T7 := Lib.hid (T6.out.up hb7)
      have U7 := Lib.hid (U6.out.up hb7)
      clear hc hb7 HX6 T6 U6 p0 q0 p1 q1 p2 q2 p3 q3
      have hc := take_tree A7 c7 L (N : Int) 0 w7 hr7 HBL.out.1 (by omega) (by have := HBL.out.2; omega)
      rw [HTK.out] at hc
      clear hr7
      go_wp2_with fail
      refine hc.mono ?_
      rintro e w8 ⟨v8, rfl, h8, hb8⟩
      obtain ⟨o8, A8, n8, c8, rfl⟩ := h8.form
      have HX8 := Lib.hid ((HX7.out.next hb8).boxed (.bool o8) (.slice A8 n8 c8))
      simp only [List.nil_append, List.cons_append] at HX8
      have hd8 : Below w8.heap.size w8 (w8.alloc (.cells #[.bool o8, .slice A8 n8 c8] 24)) := (Below.refl _ w8).alloc (Nat.le_refl _) _
      have T8 := Lib.hid ((T7.out.up hb8).up hd8)
      have U8 := Lib.hid ((U7.out.up hb8).up hd8)
      have V8 := Lib.hid (h8.up hd8)
      simp only at V8
      clear hc HX7 T7 U7 h8 hb8 hd8 HTK
      unfold tv
      have f := HX8.out.at0
      simp only [List.mem_cons, List.not_mem_nil, or_false, forall_eq_or_imp, forall_eq] at f
      obtain ⟨⟨p0, q0, _⟩, ⟨p1, q1, _⟩, ⟨p2, q2, _⟩, ⟨p3, q3, _⟩, p4, q4, _⟩ := f
      have hce := equal_any _ _ _ _ _ T8.out U8.out
      rw [eqT_refl] at hce
      unfold tv at hce
      go_wp2_with fail
      refine hce.mono ?_
      rintro e w9 ⟨rfl, hb9⟩
      have HX9 := Lib.hid (HX8.out.next hb9)
      have hce := equal_any _ _ _ _ _ (T8.out.up hb9) (V8.out.up hb9)
      rw [eqT_refl] at hce
      unfold tv at hce
      clear hb9 HX8 T8 U8 V8 p0 q0 p1 q1 p2 q2 p3 q3 p4 q4
      have f := HX9.out.at0
      simp only [List.mem_cons, List.not_mem_nil, or_false, forall_eq_or_imp, forall_eq] at f
      obtain ⟨⟨p0, q0, _⟩, ⟨p1, q1, _⟩, ⟨p2, q2, _⟩, ⟨p3, q3, _⟩, p4, q4, _⟩ := f
      go_wp2_with fail
      refine hce.mono ?_
      rintro e w10 ⟨rfl, hb10⟩
      have HX10 := Lib.hid (HX9.out.next hb10)
      clear hb10 HX9 p0 q0 p1 q1 p2 q2 p3 q3 p4 q4
      go_wp2
      go_ret
      exact ⟨ret_bool (by simp), HX10.out.bel⟩
end Go.Proofs.Ytkpefelakhbkhaa.I

namespace Go.Proofs.Ytkpefelakhbkhaa.idBack
open Go.ChangeShapes Go.WideShapes Go.ChangeAt Go.RowKit Go.Proofs.Ytkpefelakhbkhaa.I
set_option linter.unusedVariables false

set_option maxRecDepth 100000 in
theorem lifted (os : Os) (started : os.Started) (H : Type) (enc : TypeId × Value → H) :
    ReturnsInHanded {} Try.checked os 10 .any (Rows.idBackSpec.pre6 enc Try.prog Try.f10 Rows.idBackRow.domain false) (Rows.idBackSpec.post enc Try.prog Try.f10 false true false false) := by
  refine returnsInHanded_of_change_sized (C := Try.checked) own started (by kernel_rfl) Try.func10
    (ChangeSpec.witness6 (enc := enc) (C := Try.checked) false ⟨#[], #[.agg #[.bool false, .slice none 0 0], .string ByteArray.empty], []⟩ 8 (by kernel_rfl) (by kernel_rfl) (by kernel_rfl) (by kernel_rfl)) ?_
  intro W base args ds gs before hval0 hW hcnd hsz0 _
  have hval : ∀ (j : Nat) t v, Try.f10.params[j]? = some t → args[j]? = some v → Value.okWide Try.prog W .any base t v := hval0
  have hsz : (DataW.weightsEach Try.prog (Try.f10.params.toList ++ Rows.idBackSpec.plain.varTypes Try.prog) (ds ++ gs)).all (· ≤ reachBytes) = true := hsz0
  have hW' := hW
  obtain ⟨p, q, hA0, hV, rfl, hfz, hnd⟩ := hW
  have hA : DataW.TrodAll enc Try.prog W 0 (fun _ => true) true Try.f10.params.toList args.toList ds p := hA0
  rw [Try.params10] at hA hval hsz
  obtain ⟨v0, vs0, d0, ds0, p0, q0, hargs, rfl, rfl, h0, r0⟩ := trodAll_cons hA
  obtain ⟨v1, vs1, d1, ds1, p1, q1, rfl, rfl, rfl, h1, r1⟩ := trodAll_cons r0
  obtain ⟨rfl, rfl, rfl⟩ := trodAll_nil r1
  obtain rfl : args = #[v0, v1] := by cases args; simp_all
  obtain ⟨rfl, rfl⟩ := trodVars_none hV
  have k0 := h0
  have lt0 : ∀ x ∈ p0, x.block < W.heap.size := by obtain ⟨m, hm⟩ := k0; exact DataW.trod_lt m _ _ _ hm
  have arg0 := argI (hval 0 24 v0 rfl rfl) h0
  obtain ⟨T0, arg0⟩ := arg0
  obtain ⟨a1, rfl, rfl, rfl, m1⟩ := ChangeMaps.open_string Try.underlying9 (hval 1 9 v1 rfl rfl) h1
  have reach1 : a1.size ≤ 140737488351232 := by
    have := sized_string hsz (j := 1) (t := 9) rfl rfl
    simp only [reachBytes] at this
    simpa using this
  clear hA0 hval0 hsz hsz0
  refine (back_walk T0 v0 a1 W arg0 reach1).mono fun e W' ⟨he, bel⟩ => ?_
  subst he
  exact ⟨_, rfl, _, _, _, [], _, [], hW', trodAll_mk1 (shut_bool Try.underlying4 _), (trodAll_cons_mk (Below.trod laidOut (by kernel_rfl) (of_decide_eq_true (by kernel_rfl)) k0 bel lt0) (trodAll_cons_mk (ChangeMaps.shut_string Try.underlying9 m1) trodAll_mk0)), rfl, bel.frame _, fun h => by cases h⟩

theorem over : Rows.idBackRow.holds Try.pinned (OpenSpec.ofChange Rows.idBackSpec) :=
  OpenClaim.holds_of_wide 10 Try.f10 rfl rfl rfl rfl rfl rfl rfl ⟨rfl, rfl, rfl, rfl, rfl⟩ rfl rfl rfl rfl rfl (by kernel_rfl) Try.func10 (by kernel_rfl)
    (of_decide_eq_true (by kernel_rfl)) (by unfold Func.isWrapper; first | (rw [if_pos (by decide +kernel)]; kernel_rfl) | (rw [if_neg (by decide +kernel)]; exact ⟨rfl, rfl⟩))
    (fun os started H enc _ => lifted os started H enc)

theorem proved : Rows.IdBackSaid := over
#print axioms proved
end Go.Proofs.Ytkpefelakhbkhaa.idBack
