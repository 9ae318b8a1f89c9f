/-
  WireOne: the walk of the law.
-/
import Derived.Test.YthnffebjjnbakaaDoorTurns
import Derived.Deep.RegionHeld
namespace Go.Proofs.YthnffebjjnbakaaDoor
namespace wireOne
open Go.RowKit

theorem text_one {l : List Nat} (hl : ∀ x ∈ l, x < 256) {a : Nat} {m : Int} {t : List Nat} {q : Nat} (h : M.takeT l a m = some (t, q)) : a < q ∧ q ≤ l.length ∧ (∀ x ∈ t, x < 256) ∧ t.length ≤ l.length ∧ (l.drop a).take (q - a) = M.code t.length ++ t := by
  unfold M.takeT at h
  cases hT : M.takeN l a with
  | none => rw [hT] at h; cases h
  | some np =>
    obtain ⟨n, p⟩ := np
    obtain ⟨-, -, h2, h3, h4⟩ := takeN_some hl hT
    rw [Int.toNat_natCast] at h2 h4
    have hc := M.code_len n
    rw [hT] at h
    dsimp only at h
    by_cases h1 : (n : Int) ≤ m ∧ p + n ≤ l.length
    · rw [if_pos h1] at h
      simp only [Option.some.injEq, Prod.mk.injEq] at h
      obtain ⟨rfl, rfl⟩ := h
      have hlen : ((l.drop p).take n).length = n := by rw [List.length_take, List.length_drop]; omega
      refine ⟨by omega, h1.2, fun x hx => hl x (List.mem_of_mem_drop (List.mem_of_mem_take hx)), by rw [hlen]; omega, ?_⟩
      rw [hlen, ← h4, show p + n - a = (p - a) + n by omega, List.take_add, List.drop_drop, show a + (p - a) = p by omega]
    · rw [if_neg h1] at h; cases h
theorem takeT_none {l : List Nat} {a m : Int} (h : M.takeN l a = none) : M.takeT l a m = none := by unfold M.takeT; rw [h]

set_option maxRecDepth 100000 in
set_option maxHeartbeats 3200000 in
theorem walk_neg (A : Option Addr) (c : Nat) (l : List Nat) (a : Int) (w : World) (ht : Tab w) (hr : Row w w.heap.size A l) (hl : l.length ≤ 140737488351232) (hcap : l.length ≤ c) (ha1 : -9223372036854775808 ≤ a) (ha2 : a < 0) :
    Calls Tryd.prog 8 #[.slice A l.length c, .int .i64 a] w fun e w' => e = .returned (.bool true) ∧ Below w.heap.size w w' := by
  have ht1 := fun W (h : Row W W.heap.size A l) => takeNumber_any A c l a W h (by omega) ha1 (by omega)
  have htt := fun W (h : Row W W.heap.size A l) => takeText_any A c l a (l.length : Int) W h hcap (by omega) ha1 (by omega) (by omega) (by omega)
  have hop := fun W (h : Tab W) => open_any (strB l) a (l.length : Int) W (by rw [strB_size]; omega) h ha1 (by omega) (by omega) (by omega)
  have hO : M.openV (byt (strB l)) a (l.length : Int) = .error 20 := if_neg (by omega)
  rw [takeN_neg l a ha2] at ht1
  rw [takeT_none (takeN_neg l a ha2)] at htt
  rw [hO] at hop
  simp only [numR] at ht1
  simp only [txtR] at htt
  simp only [opnR] at hop
  obtain ⟨SL, hSL⟩ : ∃ SL, strB l = SL := ⟨_, rfl⟩
  rw [hSL] at hop
  have hne0 : (((20 : Nat) : Int) != 0) = true := rfl
  have hne1 : ((20 : Int) == 0) = false := rfl
  have HSL := Lib.hid hSL
  have HT1N := Lib.hid ht1
  have HTT := Lib.hid htt
  have HOP := Lib.hid hop
  have HR0 := Lib.hid hr
  have HT0 := Lib.hid ht
  have HB0 : Hid (Below w.heap.size w w) := Below.refl _ _
  clear ht1 htt hop hO hr ht hSL
  go_enter Tryd.func8, Tryd.ntmps8
  go_wp2_with fail
  refine (shown_any _ HT0.out).mono ?_
  rintro e w1 ⟨rfl, hb1⟩
  have HR1 : Hid (Row w1 w1.heap.size A l) := HR0.out.up hb1
  have HT1 : Hid (Tab w1) := HT0.out.up hb1
  have HB1 : Hid (Below w.heap.size w w1) := HB0.out.trans (hb1.mono HB0.out.size)
  clear hb1
  go_wp2_with fail
  refine (HT1N.out _ HR1.out).mono ?_
  rintro e w2 ⟨rfl, hb2⟩
  have HR2 : Hid (Row w2 w2.heap.size A l) := HR1.out.up hb2
  have HT2 : Hid (Tab w2) := HT1.out.up hb2
  have HB2 : Hid (Below w.heap.size w w2) := HB1.out.trans (hb2.mono HB1.out.size)
  clear hb2
  go_wp2
  go_quiet (fail)
  have hb3 := below_drewN (Below.refl w2.heap.size w2) nq
  generalize w2.drewN nq = w3 at *
  have HR3 : Hid (Row w3 w3.heap.size A l) := HR2.out.up hb3
  have HT3 : Hid (Tab w3) := HT2.out.up hb3
  have HB3 : Hid (Below w.heap.size w w3) := HB2.out.trans (hb3.mono HB2.out.size)
  clear hb3
  go_wp2_with fail
  refine (HTT.out _ HR3.out).mono ?_
  rintro e w4 ⟨rfl, hb4⟩
  have HR4 : Hid (Row w4 w4.heap.size A l) := HR3.out.up hb4
  have HT4 : Hid (Tab w4) := HT3.out.up hb4
  have HB4 : Hid (Below w.heap.size w w4) := HB3.out.trans (hb4.mono HB3.out.size)
  clear hb4
  go_wp2
  go_quiet (fail)
  have hb5 := below_drewN (Below.refl w4.heap.size w4) nq
  generalize w4.drewN nq = w5 at *
  have HR5 : Hid (Row w5 w5.heap.size A l) := HR4.out.up hb5
  have HT5 : Hid (Tab w5) := HT4.out.up hb5
  have HB5 : Hid (Below w.heap.size w w5) := HB4.out.trans (hb5.mono HB4.out.size)
  clear hb5
  have hst5 := run_str A c l w5 _ HR5.out
  rw [HSL.out] at hst5
  go_wp2_with fail
  refine (HOP.out _ HT5.out).mono ?_
  rintro e w6 ⟨rfl, hb6⟩
  clear hst5
  have HR6 : Hid (Row w6 w6.heap.size A l) := HR5.out.up hb6
  have HT6 : Hid (Tab w6) := HT5.out.up hb6
  have HB6 : Hid (Below w.heap.size w w6) := HB5.out.trans (hb6.mono HB5.out.size)
  clear hb6
  go_wp2
  go_quiet (fail)
  have hb7 := below_drewN (Below.refl w6.heap.size w6) nq
  generalize w6.drewN nq = w7 at *
  have HR7 : Hid (Row w7 w7.heap.size A l) := HR6.out.up hb7
  have HT7 : Hid (Tab w7) := HT6.out.up hb7
  have HB7 : Hid (Below w.heap.size w w7) := HB6.out.trans (hb7.mono HB6.out.size)
  clear hb7
  go_wp2
  go_ret
  exact ⟨ret_bool rfl, HB7.out⟩

set_option maxRecDepth 100000 in
set_option maxHeartbeats 12800000 in
theorem walk_pos (A : Option Addr) (c : Nat) (l : List Nat) (a : Nat) (w : World) (ht : Tab w) (hr : Row w w.heap.size A l) (hl : l.length ≤ 140737488351232) (hcap : l.length ≤ c) (ha : (a : Int) ≤ 9223372036854775807) :
    Calls Tryd.prog 8 #[.slice A l.length c, .int .i64 (a : Int)] w fun e w' => e = .returned (.bool true) ∧ Below w.heap.size w w' := by
  have ht1 := fun W (h : Row W W.heap.size A l) => takeNumber_any A c l a W h (by omega) (by omega) ha
  have htt := fun W (h : Row W W.heap.size A l) => takeText_any A c l a (l.length : Int) W h hcap (by omega) (by omega) ha (by omega) (by omega)
  have hop := fun W (h : Tab W) => open_any (strB l) a (l.length : Int) W (by rw [strB_size]; omega) h (by omega) ha (by omega) (by omega)
  rw [byt_strB l hr.1] at hop
  obtain ⟨SL, hSL⟩ : ∃ SL, strB l = SL := ⟨_, rfl⟩
  rw [hSL] at hop
  have hne0 : (((20 : Nat) : Int) != 0) = true := rfl
  have hne1 : ((20 : Int) == 0) = false := rfl
  have hself : ∀ s : ByteArray, (s.toList == s.toList) = true := fun s => by simp
  have HSL := Lib.hid hSL
  have HT1N := Lib.hid ht1
  have HTT := Lib.hid htt
  have HOP := Lib.hid hop
  have HR0 := Lib.hid hr
  have HT0 := Lib.hid ht
  have HB0 : Hid (Below w.heap.size w w) := Below.refl _ _
  have HRC : Hid (∀ r, r ≤ l.length → r ≤ c) := fun r h => by omega
  clear ht1 htt hop hr ht hSL
  cases hTN : M.takeN l a with
  | none =>
    rw [takeT_none hTN] at HTT
    rw [hTN] at HT1N
    simp only [numR] at HT1N
    simp only [txtR] at HTT
    clear hTN
    cases hO : M.openV l a (l.length : Int) with
    | error e =>
      have he := openV_err hO
      rw [hO] at HOP
      simp only [opnR] at HOP
      have hneE : (((e : Nat) : Int) != 0) = true := by rcases he with rfl | rfl <;> rfl
      clear hO he
      go_enter Tryd.func8, Tryd.ntmps8
      go_wp2_with fail
      refine (shown_any _ HT0.out).mono ?_
      rintro e w1 ⟨rfl, hb1⟩
      have HR1 : Hid (Row w1 w1.heap.size A l) := HR0.out.up hb1
      have HT1 : Hid (Tab w1) := HT0.out.up hb1
      have HB1 : Hid (Below w.heap.size w w1) := HB0.out.trans (hb1.mono HB0.out.size)
      clear hb1
      go_wp2_with fail
      refine (HT1N.out _ HR1.out).mono ?_
      rintro e w2 ⟨rfl, hb2⟩
      have HR2 : Hid (Row w2 w2.heap.size A l) := HR1.out.up hb2
      have HT2 : Hid (Tab w2) := HT1.out.up hb2
      have HB2 : Hid (Below w.heap.size w w2) := HB1.out.trans (hb2.mono HB1.out.size)
      clear hb2
      go_wp2
      go_quiet (fail)
      have hb3 := below_drewN (Below.refl w2.heap.size w2) nq
      generalize w2.drewN nq = w3 at *
      have HR3 : Hid (Row w3 w3.heap.size A l) := HR2.out.up hb3
      have HT3 : Hid (Tab w3) := HT2.out.up hb3
      have HB3 : Hid (Below w.heap.size w w3) := HB2.out.trans (hb3.mono HB2.out.size)
      clear hb3
      go_wp2_with fail
      refine (HTT.out _ HR3.out).mono ?_
      rintro e w4 ⟨rfl, hb4⟩
      have HR4 : Hid (Row w4 w4.heap.size A l) := HR3.out.up hb4
      have HT4 : Hid (Tab w4) := HT3.out.up hb4
      have HB4 : Hid (Below w.heap.size w w4) := HB3.out.trans (hb4.mono HB3.out.size)
      clear hb4
      go_wp2
      go_quiet (fail)
      have hb5 := below_drewN (Below.refl w4.heap.size w4) nq
      generalize w4.drewN nq = w5 at *
      have HR5 : Hid (Row w5 w5.heap.size A l) := HR4.out.up hb5
      have HT5 : Hid (Tab w5) := HT4.out.up hb5
      have HB5 : Hid (Below w.heap.size w w5) := HB4.out.trans (hb5.mono HB4.out.size)
      clear hb5
      have hst5 := run_str A c l w5 _ HR5.out
      rw [HSL.out] at hst5
      go_wp2_with fail
      refine (HOP.out _ HT5.out).mono ?_
      rintro e w6 ⟨rfl, hb6⟩
      clear hst5
      have HR6 : Hid (Row w6 w6.heap.size A l) := HR5.out.up hb6
      have HT6 : Hid (Tab w6) := HT5.out.up hb6
      have HB6 : Hid (Below w.heap.size w w6) := HB5.out.trans (hb6.mono HB5.out.size)
      clear hb6
      go_wp2
      go_quiet (fail)
      have hb7 := below_drewN (Below.refl w6.heap.size w6) nq
      generalize w6.drewN nq = w7 at *
      have HR7 : Hid (Row w7 w7.heap.size A l) := HR6.out.up hb7
      have HT7 : Hid (Tab w7) := HT6.out.up hb7
      have HB7 : Hid (Below w.heap.size w w7) := HB6.out.trans (hb7.mono HB6.out.size)
      clear hb7
      go_wp2
      go_ret
      exact ⟨ret_bool rfl, HB7.out⟩
    | ok kr =>
      have hsome : ∃ b off, A = some ⟨b, off, none⟩ := by
        have h := (open_sealed HR0.out.1 hO)
        have : 0 < l.length := by
          rcases Nat.eq_zero_or_pos l.length with h0 | h0
          · rw [List.eq_nil_of_length_eq_zero h0] at hO
            rw [openV_far] at hO
            · cases hO
            · simp
          · exact h0
        obtain ⟨b, off, e, _⟩ := HR0.out.2 this
        exact ⟨b, off, e⟩
      obtain ⟨b, off, rfl⟩ := hsome
      obtain ⟨k, t', r⟩ := kr
      obtain ⟨-, hrl, har, hk256, hb256, -, hbl, hseal⟩ := open_sealed HR0.out.1 hO
      rw [Int.toNat_natCast] at har hseal
      have HRL := Lib.hid hrl
      rw [hO] at HOP
      simp only [opnR] at HOP
      have hsz : (strB t').size = t'.length := strB_size t'
      have hbt : byt (strB t') = t' := byt_strB t' hb256
      have hse := fun W (h : Tab W) => seal_any k (strB t') W hk256 (by rw [hsz]; omega) h
      rw [hbt] at hse
      have hslen := M.sealed_length k t'
      have har2 : a < r := by
        have := congrArg List.length hseal
        rw [List.length_take, hslen] at this
        omega
      have hac : ¬ c = a := by omega
      obtain ⟨Z, hZ⟩ : ∃ Z, M.sealed k t' = Z := ⟨_, rfl⟩
      rw [hZ] at hse hseal
      obtain ⟨S3, hS3⟩ : ∃ S, strB Z = S := ⟨_, rfl⟩
      rw [hS3] at hse
      have hcvO : ∀ W, Below w.heap.size w W → ∀ cc, (convert 22 9 (.slice (some ⟨b, off + a, none⟩) (r - a) cc)).run Tryd.prog W = .ok (.string S3) W := by
        intro W hW cc
        have h := (HR0.out.up hW).sub a (r - a)
        rw [hseal] at h
        have hlen : Z.length = r - a := by rw [← hseal, List.length_take, List.length_drop]; omega
        have := run_str _ cc Z W _ h
        rwa [hlen, hS3] at this
      obtain ⟨SB, hSB⟩ : ∃ SB, strB t' = SB := ⟨_, rfl⟩
      rw [hSB] at HOP hse
      have HSE := Lib.hid hse
      have HCVO := Lib.hid hcvO
      clear hrl har hk256 hb256 hbl hseal hsz hbt hse hslen hZ hS3 hcvO hO hSB
      have harI : (a : Int) ≤ (r : Int) := by omega
      have hrcI : (r : Int) ≤ (c : Int) := by have := HRC.out r HRL.out; omega
      go_enter Tryd.func8, Tryd.ntmps8
      go_wp2_with fail
      refine (shown_any _ HT0.out).mono ?_
      rintro e w1 ⟨rfl, hb1⟩
      have HR1 : Hid (Row w1 w1.heap.size (some ⟨b, off, none⟩) l) := HR0.out.up hb1
      have HT1 : Hid (Tab w1) := HT0.out.up hb1
      have HB1 : Hid (Below w.heap.size w w1) := HB0.out.trans (hb1.mono HB0.out.size)
      clear hb1
      go_wp2_with fail
      refine (HT1N.out _ HR1.out).mono ?_
      rintro e w2 ⟨rfl, hb2⟩
      have HR2 : Hid (Row w2 w2.heap.size (some ⟨b, off, none⟩) l) := HR1.out.up hb2
      have HT2 : Hid (Tab w2) := HT1.out.up hb2
      have HB2 : Hid (Below w.heap.size w w2) := HB1.out.trans (hb2.mono HB1.out.size)
      clear hb2
      go_wp2
      go_quiet (fail)
      have hb3 := below_drewN (Below.refl w2.heap.size w2) nq
      generalize w2.drewN nq = w3 at *
      have HR3 : Hid (Row w3 w3.heap.size (some ⟨b, off, none⟩) l) := HR2.out.up hb3
      have HT3 : Hid (Tab w3) := HT2.out.up hb3
      have HB3 : Hid (Below w.heap.size w w3) := HB2.out.trans (hb3.mono HB2.out.size)
      clear hb3
      go_wp2_with fail
      refine (HTT.out _ HR3.out).mono ?_
      rintro e w4 ⟨rfl, hb4⟩
      have HR4 : Hid (Row w4 w4.heap.size (some ⟨b, off, none⟩) l) := HR3.out.up hb4
      have HT4 : Hid (Tab w4) := HT3.out.up hb4
      have HB4 : Hid (Below w.heap.size w w4) := HB3.out.trans (hb4.mono HB3.out.size)
      clear hb4
      go_wp2
      go_quiet (fail)
      have hb5 := below_drewN (Below.refl w4.heap.size w4) nq
      generalize w4.drewN nq = w5 at *
      have HR5 : Hid (Row w5 w5.heap.size (some ⟨b, off, none⟩) l) := HR4.out.up hb5
      have HT5 : Hid (Tab w5) := HT4.out.up hb5
      have HB5 : Hid (Below w.heap.size w w5) := HB4.out.trans (hb5.mono HB4.out.size)
      clear hb5
      have hst5 := run_str (some ⟨b, off, none⟩) c l w5 _ HR5.out
      rw [HSL.out] at hst5
      go_wp2_with fail
      refine (HOP.out _ HT5.out).mono ?_
      rintro e w6 ⟨rfl, hb6⟩
      clear hst5
      have HR6 : Hid (Row w6 w6.heap.size (some ⟨b, off, none⟩) l) := HR5.out.up hb6
      have HT6 : Hid (Tab w6) := HT5.out.up hb6
      have HB6 : Hid (Below w.heap.size w w6) := HB5.out.trans (hb6.mono HB5.out.size)
      clear hb6
      go_wp2
      refine wp_region_held_drew (S := fun W => Below w6.heap.size w6 W) (by kernel_rfl) ((Below.refl _ _).drew) (fun hS => ?_)
      refine wpAnyH_take (i := 0) (v := ?_) rfl (by kernel_rfl) (by kernel_rfl) (by kernel_rfl) (fun _ _ _ h => h) (Yields.yieldsIf (Or.inl ⟨by kernel_rfl, ?_⟩)) hS ?_
      rotate_left
      · first | (intro w; go_simp; done) | (intro w; go_simp; with_reducible rfl)
      refine wpAnyH_take (i := 1) (v := ?_) rfl (by kernel_rfl) (by kernel_rfl) (by kernel_rfl) (fun _ _ _ h => h) (Yields.yieldsIf (Or.inl ⟨by kernel_rfl, ?_⟩)) hS ?_
      rotate_left
      · first | (intro w; go_simp; done) | (intro w; go_simp; with_reducible rfl)
      refine wpAnyH_take (i := 2) (v := ?_) rfl (by kernel_rfl) (by kernel_rfl) (by kernel_rfl) (fun _ _ _ h => h) (Yields.yieldsIf (Or.inl ⟨by kernel_rfl, ?_⟩)) hS ?_
      rotate_left
      · first | (intro w; go_simp; done) | (intro w; go_simp; with_reducible rfl)
      refine wpAnyH_take (i := 3) (v := ?_) rfl (by kernel_rfl) (by kernel_rfl) (by kernel_rfl) (fun _ _ _ h => h) (Yields.yieldsIf (Or.inl ⟨by kernel_rfl, ?_⟩)) hS ?_
      rotate_left
      · first | (intro w; go_simp; done) | (intro w; go_simp; with_reducible rfl)
      refine wpAnyH_take (i := 4) (v := ?_) rfl (by kernel_rfl) (by kernel_rfl) (by kernel_rfl) (fun _ _ _ h => h) (Yields.yieldsIf (Or.inl ⟨by kernel_rfl, ?_⟩)) hS ?_
      rotate_left
      · first | (intro w; go_simp; done) | (intro w; go_simp; with_reducible rfl)
      refine wpAnyH_take (i := 5) (v := ?_) rfl (by kernel_rfl) (by kernel_rfl) (by kernel_rfl) (fun _ _ _ h => h) (Yields.yieldsIf (Or.inl ⟨by kernel_rfl, ?_⟩)) hS ?_
      rotate_left
      · first | (intro w; go_simp; done) | (intro w; go_simp; with_reducible rfl)
      refine wpAnyH_take (i := 6) (v := ?_) rfl (by kernel_rfl) (by kernel_rfl) (by kernel_rfl) (fun _ _ _ h => h) (Yields.yieldsIf (Or.inl ⟨by kernel_rfl, ?_⟩)) hS ?_
      rotate_left
      · first | (intro w; go_simp; done) | (intro w; go_simp; with_reducible rfl)
      refine wpAnyH_take (i := 8) (v := ?_) rfl (by kernel_rfl) (by kernel_rfl) (by kernel_rfl) (fun _ _ _ h => h) (Yields.yieldsIf (Or.inl ⟨by kernel_rfl, ?_⟩)) hS ?_
      rotate_left
      · first | (intro w; go_simp; done) | (intro w; go_simp; with_reducible rfl)
      refine wpAnyH_take (i := 9) (v := ?_) rfl (by kernel_rfl) (by kernel_rfl) (by kernel_rfl) (fun _ _ _ h => h) (Yields.yieldsIf (Or.inl ⟨by kernel_rfl, ?_⟩)) hS ?_
      rotate_left
      · first | (intro w; go_simp; done) | (intro w; go_simp; with_reducible rfl)
      refine wpAnyH_take (i := 10) (v := ?_) rfl (by kernel_rfl) (by kernel_rfl) (by kernel_rfl) (fun _ _ _ h => h) (Yields.yieldsIf (Or.inl ⟨by kernel_rfl, ?_⟩)) hS ?_
      rotate_left
      · first | (intro w; go_simp; done) | (intro w; go_simp; with_reducible rfl)
      refine wpAnyH_take (i := 11) (v := ?_) rfl (by kernel_rfl) (by kernel_rfl) (by kernel_rfl) (fun _ _ _ h => h) (Yields.yieldsIf (Or.inl ⟨by kernel_rfl, ?_⟩)) hS ?_
      rotate_left
      · first | (intro w; go_simp; done) | (intro w; go_simp; with_reducible rfl)
      refine wpAnyH_take (i := 12) (v := ?_) rfl (by kernel_rfl) (by kernel_rfl) (by kernel_rfl) (fun _ _ _ h => h) (Or.inl ⟨by kernel_rfl, fun W hW => ?_⟩) hS ?_
      rotate_left
      · have hcv := HCVO.out W (HB6.out.trans (hW.mono HB6.out.size)) (c - a)
        first | (go_simp; done) | (go_simp; with_reducible rfl)
      refine wpAnyH_ready (rs := [7]) (by kernel_rfl) (by simp) ?_
      refine AllReadyH.cons rfl (fun K hK => ?_) AllReadyH.nil
      go_simp
      go_wp2_with (go_at_call 24; refine (HSE.out _ (HT6.out.up hS)).mono ?_; rintro e w7 ⟨rfl, hbb⟩)
      have hS3 : Below w6.heap.size w6 w7 := hS.trans (hbb.mono hS.size)
      clear hbb
      refine hK.out _ _ hS3 (fun hS => ?_)
      clear hK K hS3
      refine wpAnyH_take (i := 13) (v := ?_) rfl (by kernel_rfl) (by kernel_rfl) (by kernel_rfl) (fun _ _ _ h => h) (Yields.yieldsIf (Or.inl ⟨by kernel_rfl, ?_⟩)) hS ?_
      rotate_left
      · first | (intro w; go_simp; done) | (intro w; go_simp; with_reducible rfl)
      refine wpAnyH_take (i := 14) (v := ?_) rfl (by kernel_rfl) (by kernel_rfl) (by kernel_rfl) (fun _ _ _ h => h) (Yields.yieldsIf (Or.inl ⟨by kernel_rfl, ?_⟩)) hS ?_
      rotate_left
      · first | (intro w; go_simp; done) | (intro w; go_simp; with_reducible rfl)
      refine wpAnyH_take (i := 15) (v := ?_) rfl (by kernel_rfl) (by kernel_rfl) (by kernel_rfl) (fun _ _ _ h => h) (Yields.yieldsIf (Or.inl ⟨by kernel_rfl, ?_⟩)) hS ?_
      rotate_left
      · first | (intro w; go_simp; done) | (intro w; go_simp; with_reducible rfl)
      refine wpAnyH_take (i := 16) (v := ?_) rfl (by kernel_rfl) (by kernel_rfl) (by kernel_rfl) (fun _ _ _ h => h) (Yields.yieldsIf (Or.inl ⟨by kernel_rfl, ?_⟩)) hS ?_
      rotate_left
      · first | (intro w; go_simp; done) | (intro w; go_simp; with_reducible rfl)
      refine wpAnyH_done (by kernel_rfl) ?_ _
      have hb7 : Below w6.heap.size w6 w7 := hS
      clear hS
      have HR7 : Hid (Row w7 w7.heap.size (some ⟨b, off, none⟩) l) := HR6.out.up hb7
      have HT7 : Hid (Tab w7) := HT6.out.up hb7
      have HB7 : Hid (Below w.heap.size w w7) := HB6.out.trans (hb7.mono HB6.out.size)
      clear hb7
      go_wp2
      go_ret
      exact ⟨ret_bool rfl, HB7.out⟩
  | some np =>
    obtain ⟨n, p⟩ := np
    obtain ⟨-, hn64, hpe, hpl, hcode⟩ := takeN_some HR0.out.1 hTN
    rw [Int.toNat_natCast] at hpe hcode
    have hcl := M.code_len n
    have hap : a < p := by omega
    have hsome : ∃ b off, A = some ⟨b, off, none⟩ := by
      obtain ⟨b, off, e, _⟩ := HR0.out.2 (by omega)
      exact ⟨b, off, e⟩
    obtain ⟨b, off, rfl⟩ := hsome
    have hac : ¬ c = a := by omega
    rw [hTN] at HT1N
    simp only [numR] at HT1N
    have hn1 := fun W => number_any none 0 [] n W (Row.none_ _ _ _) (by decide) hn64
    simp only [List.nil_append, List.length_nil] at hn1
    obtain ⟨V, hV⟩ : ∃ V : Int, (n : Int) = V := ⟨_, rfl⟩
    rw [hV] at HT1N hn1
    have hC256 := M.code_lt n hn64
    obtain ⟨C, hC⟩ : ∃ C, M.code n = C := ⟨_, rfl⟩
    rw [hC] at hn1 hcode hC256
    obtain ⟨S1, hS1⟩ : ∃ S, strB C = S := ⟨_, rfl⟩
    have hcvN : ∀ W, Below w.heap.size w W → ∀ cc, (convert 22 9 (.slice (some ⟨b, off + a, none⟩) (p - a) cc)).run Tryd.prog W = .ok (.string S1) W := by
      intro W hW cc
      have h := (HR0.out.up hW).sub a (p - a)
      rw [hcode] at h
      have hlen : C.length = p - a := by rw [← hcode, List.length_take, List.length_drop]; omega
      have := run_str _ cc C W _ h
      rwa [hlen, hS1] at this
    have HN1 := Lib.hid hn1
    have HCVN := Lib.hid hcvN
    have HC256 := Lib.hid hC256
    have HS1 := Lib.hid hS1
    clear hn64 hpe hcode hV hn1 hC hC256 hS1 hcvN hcl hTN
    have hapI : (a : Int) ≤ (p : Int) := by omega
    have hpcI : (p : Int) ≤ (c : Int) := by omega
    cases hTT : M.takeT l a (l.length : Int) with
    | none =>
      rw [hTT] at HTT
      simp only [txtR] at HTT
      clear hTT
      cases hO : M.openV l a (l.length : Int) with
      | error e =>
        have he := openV_err hO
        rw [hO] at HOP
        simp only [opnR] at HOP
        have hneE : (((e : Nat) : Int) != 0) = true := by rcases he with rfl | rfl <;> rfl
        clear hO he
        go_enter Tryd.func8, Tryd.ntmps8
        go_wp2_with fail
        refine (shown_any _ HT0.out).mono ?_
        rintro e w1 ⟨rfl, hb1⟩
        have HR1 : Hid (Row w1 w1.heap.size (some ⟨b, off, none⟩) l) := HR0.out.up hb1
        have HT1 : Hid (Tab w1) := HT0.out.up hb1
        have HB1 : Hid (Below w.heap.size w w1) := HB0.out.trans (hb1.mono HB0.out.size)
        clear hb1
        go_wp2_with fail
        refine (HT1N.out _ HR1.out).mono ?_
        rintro e w2 ⟨rfl, hb2⟩
        have HR2 : Hid (Row w2 w2.heap.size (some ⟨b, off, none⟩) l) := HR1.out.up hb2
        have HT2 : Hid (Tab w2) := HT1.out.up hb2
        have HB2 : Hid (Below w.heap.size w w2) := HB1.out.trans (hb2.mono HB1.out.size)
        clear hb2
        go_wp2
        refine wp_region_held_drew (S := fun W => Below w2.heap.size w2 W) (by kernel_rfl) ((Below.refl _ _).drew) (fun hS => ?_)
        refine wpAnyH_take (i := 0) (v := ?_) rfl (by kernel_rfl) (by kernel_rfl) (by kernel_rfl) (fun _ _ _ h => h) (Yields.yieldsIf (Or.inl ⟨by kernel_rfl, ?_⟩)) hS ?_
        rotate_left
        · first | (intro w; go_simp; done) | (intro w; go_simp; with_reducible rfl)
        refine wpAnyH_take (i := 1) (v := ?_) rfl (by kernel_rfl) (by kernel_rfl) (by kernel_rfl) (fun _ _ _ h => h) (Yields.yieldsIf (Or.inl ⟨by kernel_rfl, ?_⟩)) hS ?_
        rotate_left
        · first | (intro w; go_simp; done) | (intro w; go_simp; with_reducible rfl)
        refine wpAnyH_take (i := 2) (v := ?_) rfl (by kernel_rfl) (by kernel_rfl) (by kernel_rfl) (fun _ _ _ h => h) (Yields.yieldsIf (Or.inl ⟨by kernel_rfl, ?_⟩)) hS ?_
        rotate_left
        · first | (intro w; go_simp; done) | (intro w; go_simp; with_reducible rfl)
        refine wpAnyH_take (i := 3) (v := ?_) rfl (by kernel_rfl) (by kernel_rfl) (by kernel_rfl) (fun _ _ _ h => h) (Yields.yieldsIf (Or.inl ⟨by kernel_rfl, ?_⟩)) hS ?_
        rotate_left
        · first | (intro w; go_simp; done) | (intro w; go_simp; with_reducible rfl)
        refine wpAnyH_take (i := 6) (v := ?_) rfl (by kernel_rfl) (by kernel_rfl) (by kernel_rfl) (fun _ _ _ h => h) (Yields.yieldsIf (Or.inl ⟨by kernel_rfl, ?_⟩)) hS ?_
        rotate_left
        · first | (intro w; go_simp; done) | (intro w; go_simp; with_reducible rfl)
        refine wpAnyH_take (i := 7) (v := ?_) rfl (by kernel_rfl) (by kernel_rfl) (by kernel_rfl) (fun _ _ _ h => h) (Yields.yieldsIf (Or.inl ⟨by kernel_rfl, ?_⟩)) hS ?_
        rotate_left
        · first | (intro w; go_simp; done) | (intro w; go_simp; with_reducible rfl)
        refine wpAnyH_take (i := 8) (v := ?_) rfl (by kernel_rfl) (by kernel_rfl) (by kernel_rfl) (fun _ _ _ h => h) (Yields.yieldsIf (Or.inl ⟨by kernel_rfl, ?_⟩)) hS ?_
        rotate_left
        · first | (intro w; go_simp; done) | (intro w; go_simp; with_reducible rfl)
        refine wpAnyH_take (i := 9) (v := ?_) rfl (by kernel_rfl) (by kernel_rfl) (by kernel_rfl) (fun _ _ _ h => h) (Yields.yieldsIf (Or.inl ⟨by kernel_rfl, ?_⟩)) hS ?_
        rotate_left
        · first | (intro w; go_simp; done) | (intro w; go_simp; with_reducible rfl)
        refine wpAnyH_take (i := 10) (v := ?_) rfl (by kernel_rfl) (by kernel_rfl) (by kernel_rfl) (fun _ _ _ h => h) (Or.inl ⟨by kernel_rfl, fun W hW => ?_⟩) hS ?_
        rotate_left
        · have hcv := HCVN.out W (HB2.out.trans (hW.mono HB2.out.size)) (c - a)
          first | (go_simp; done) | (go_simp; with_reducible rfl)
        refine wpAnyH_ready (rs := [4]) (by kernel_rfl) (by simp) ?_
        refine AllReadyH.cons rfl (fun K hK => ?_) AllReadyH.nil
        go_simp
        go_wp2_with (go_at_call 14; refine (HN1.out _).mono ?_; rintro e w3 ⟨g3, c3, rfl, ho3, hbb⟩)
        have hS3 : Below w2.heap.size w2 w3 := hS.trans (hbb.mono hS.size)
        have hs3 := run_str _ c3 C w3 _ (ho3.row HC256.out ho3.lt.2)
        rw [HS1.out] at hs3
        clear ho3 hbb
        refine hK.out _ _ hS3 (fun hS => ?_)
        clear hK K
        refine wpAnyH_ready (rs := [5]) (by kernel_rfl) (by simp) ?_
        refine AllReadyH.cons rfl (fun K hK => ?_) AllReadyH.nil
        go_simp
        refine hK.out _ _ hS (fun hS => ?_)
        clear hK K hs3 hS3
        refine wpAnyH_take (i := 11) (v := ?_) rfl (by kernel_rfl) (by kernel_rfl) (by kernel_rfl) (fun _ _ _ h => h) (Yields.yieldsIf (Or.inl ⟨by kernel_rfl, ?_⟩)) hS ?_
        rotate_left
        · first | (intro w; go_simp; done) | (intro w; go_simp; with_reducible rfl)
        refine wpAnyH_take (i := 12) (v := ?_) rfl (by kernel_rfl) (by kernel_rfl) (by kernel_rfl) (fun _ _ _ h => h) (Yields.yieldsIf (Or.inl ⟨by kernel_rfl, ?_⟩)) hS ?_
        rotate_left
        · first | (intro w; go_simp; done) | (intro w; go_simp; with_reducible rfl)
        refine wpAnyH_done (by kernel_rfl) ?_ _
        have hb3 : Below w2.heap.size w2 w3 := hS
        clear hS
        have HR3 : Hid (Row w3 w3.heap.size (some ⟨b, off, none⟩) l) := HR2.out.up hb3
        have HT3 : Hid (Tab w3) := HT2.out.up hb3
        have HB3 : Hid (Below w.heap.size w w3) := HB2.out.trans (hb3.mono HB2.out.size)
        clear hb3
        go_wp2_with fail
        refine (HTT.out _ HR3.out).mono ?_
        rintro e w4 ⟨rfl, hb4⟩
        have HR4 : Hid (Row w4 w4.heap.size (some ⟨b, off, none⟩) l) := HR3.out.up hb4
        have HT4 : Hid (Tab w4) := HT3.out.up hb4
        have HB4 : Hid (Below w.heap.size w w4) := HB3.out.trans (hb4.mono HB3.out.size)
        clear hb4
        go_wp2
        go_quiet (fail)
        have hb5 := below_drewN (Below.refl w4.heap.size w4) nq
        generalize w4.drewN nq = w5 at *
        have HR5 : Hid (Row w5 w5.heap.size (some ⟨b, off, none⟩) l) := HR4.out.up hb5
        have HT5 : Hid (Tab w5) := HT4.out.up hb5
        have HB5 : Hid (Below w.heap.size w w5) := HB4.out.trans (hb5.mono HB4.out.size)
        clear hb5
        have hst5 := run_str (some ⟨b, off, none⟩) c l w5 _ HR5.out
        rw [HSL.out] at hst5
        go_wp2_with fail
        refine (HOP.out _ HT5.out).mono ?_
        rintro e w6 ⟨rfl, hb6⟩
        clear hst5
        have HR6 : Hid (Row w6 w6.heap.size (some ⟨b, off, none⟩) l) := HR5.out.up hb6
        have HT6 : Hid (Tab w6) := HT5.out.up hb6
        have HB6 : Hid (Below w.heap.size w w6) := HB5.out.trans (hb6.mono HB5.out.size)
        clear hb6
        go_wp2
        go_quiet (fail)
        have hb7 := below_drewN (Below.refl w6.heap.size w6) nq
        generalize w6.drewN nq = w7 at *
        have HR7 : Hid (Row w7 w7.heap.size (some ⟨b, off, none⟩) l) := HR6.out.up hb7
        have HT7 : Hid (Tab w7) := HT6.out.up hb7
        have HB7 : Hid (Below w.heap.size w w7) := HB6.out.trans (hb7.mono HB6.out.size)
        clear hb7
        go_wp2
        go_ret
        exact ⟨ret_bool rfl, HB7.out⟩
      | ok kr =>
        obtain ⟨k, t', r⟩ := kr
        obtain ⟨-, hrl, har, hk256, hb256, -, hbl, hseal⟩ := open_sealed HR0.out.1 hO
        rw [Int.toNat_natCast] at har hseal
        have HRL := Lib.hid hrl
        rw [hO] at HOP
        simp only [opnR] at HOP
        have hsz : (strB t').size = t'.length := strB_size t'
        have hbt : byt (strB t') = t' := byt_strB t' hb256
        have hse := fun W (h : Tab W) => seal_any k (strB t') W hk256 (by rw [hsz]; omega) h
        rw [hbt] at hse
        have hslen := M.sealed_length k t'
        have har2 : a < r := by
          have := congrArg List.length hseal
          rw [List.length_take, hslen] at this
          omega
        have hac : ¬ c = a := by omega
        obtain ⟨Z, hZ⟩ : ∃ Z, M.sealed k t' = Z := ⟨_, rfl⟩
        rw [hZ] at hse hseal
        obtain ⟨S3, hS3⟩ : ∃ S, strB Z = S := ⟨_, rfl⟩
        rw [hS3] at hse
        have hcvO : ∀ W, Below w.heap.size w W → ∀ cc, (convert 22 9 (.slice (some ⟨b, off + a, none⟩) (r - a) cc)).run Tryd.prog W = .ok (.string S3) W := by
          intro W hW cc
          have h := (HR0.out.up hW).sub a (r - a)
          rw [hseal] at h
          have hlen : Z.length = r - a := by rw [← hseal, List.length_take, List.length_drop]; omega
          have := run_str _ cc Z W _ h
          rwa [hlen, hS3] at this
        obtain ⟨SB, hSB⟩ : ∃ SB, strB t' = SB := ⟨_, rfl⟩
        rw [hSB] at HOP hse
        have HSE := Lib.hid hse
        have HCVO := Lib.hid hcvO
        clear hrl har hk256 hb256 hbl hseal hsz hbt hse hslen hZ hS3 hcvO hO hSB
        have harI : (a : Int) ≤ (r : Int) := by omega
        have hrcI : (r : Int) ≤ (c : Int) := by have := HRC.out r HRL.out; omega
        go_enter Tryd.func8, Tryd.ntmps8
        go_wp2_with fail
        refine (shown_any _ HT0.out).mono ?_
        rintro e w1 ⟨rfl, hb1⟩
        have HR1 : Hid (Row w1 w1.heap.size (some ⟨b, off, none⟩) l) := HR0.out.up hb1
        have HT1 : Hid (Tab w1) := HT0.out.up hb1
        have HB1 : Hid (Below w.heap.size w w1) := HB0.out.trans (hb1.mono HB0.out.size)
        clear hb1
        go_wp2_with fail
        refine (HT1N.out _ HR1.out).mono ?_
        rintro e w2 ⟨rfl, hb2⟩
        have HR2 : Hid (Row w2 w2.heap.size (some ⟨b, off, none⟩) l) := HR1.out.up hb2
        have HT2 : Hid (Tab w2) := HT1.out.up hb2
        have HB2 : Hid (Below w.heap.size w w2) := HB1.out.trans (hb2.mono HB1.out.size)
        clear hb2
        go_wp2
        refine wp_region_held_drew (S := fun W => Below w2.heap.size w2 W) (by kernel_rfl) ((Below.refl _ _).drew) (fun hS => ?_)
        refine wpAnyH_take (i := 0) (v := ?_) rfl (by kernel_rfl) (by kernel_rfl) (by kernel_rfl) (fun _ _ _ h => h) (Yields.yieldsIf (Or.inl ⟨by kernel_rfl, ?_⟩)) hS ?_
        rotate_left
        · first | (intro w; go_simp; done) | (intro w; go_simp; with_reducible rfl)
        refine wpAnyH_take (i := 1) (v := ?_) rfl (by kernel_rfl) (by kernel_rfl) (by kernel_rfl) (fun _ _ _ h => h) (Yields.yieldsIf (Or.inl ⟨by kernel_rfl, ?_⟩)) hS ?_
        rotate_left
        · first | (intro w; go_simp; done) | (intro w; go_simp; with_reducible rfl)
        refine wpAnyH_take (i := 2) (v := ?_) rfl (by kernel_rfl) (by kernel_rfl) (by kernel_rfl) (fun _ _ _ h => h) (Yields.yieldsIf (Or.inl ⟨by kernel_rfl, ?_⟩)) hS ?_
        rotate_left
        · first | (intro w; go_simp; done) | (intro w; go_simp; with_reducible rfl)
        refine wpAnyH_take (i := 3) (v := ?_) rfl (by kernel_rfl) (by kernel_rfl) (by kernel_rfl) (fun _ _ _ h => h) (Yields.yieldsIf (Or.inl ⟨by kernel_rfl, ?_⟩)) hS ?_
        rotate_left
        · first | (intro w; go_simp; done) | (intro w; go_simp; with_reducible rfl)
        refine wpAnyH_take (i := 6) (v := ?_) rfl (by kernel_rfl) (by kernel_rfl) (by kernel_rfl) (fun _ _ _ h => h) (Yields.yieldsIf (Or.inl ⟨by kernel_rfl, ?_⟩)) hS ?_
        rotate_left
        · first | (intro w; go_simp; done) | (intro w; go_simp; with_reducible rfl)
        refine wpAnyH_take (i := 7) (v := ?_) rfl (by kernel_rfl) (by kernel_rfl) (by kernel_rfl) (fun _ _ _ h => h) (Yields.yieldsIf (Or.inl ⟨by kernel_rfl, ?_⟩)) hS ?_
        rotate_left
        · first | (intro w; go_simp; done) | (intro w; go_simp; with_reducible rfl)
        refine wpAnyH_take (i := 8) (v := ?_) rfl (by kernel_rfl) (by kernel_rfl) (by kernel_rfl) (fun _ _ _ h => h) (Yields.yieldsIf (Or.inl ⟨by kernel_rfl, ?_⟩)) hS ?_
        rotate_left
        · first | (intro w; go_simp; done) | (intro w; go_simp; with_reducible rfl)
        refine wpAnyH_take (i := 9) (v := ?_) rfl (by kernel_rfl) (by kernel_rfl) (by kernel_rfl) (fun _ _ _ h => h) (Yields.yieldsIf (Or.inl ⟨by kernel_rfl, ?_⟩)) hS ?_
        rotate_left
        · first | (intro w; go_simp; done) | (intro w; go_simp; with_reducible rfl)
        refine wpAnyH_take (i := 10) (v := ?_) rfl (by kernel_rfl) (by kernel_rfl) (by kernel_rfl) (fun _ _ _ h => h) (Or.inl ⟨by kernel_rfl, fun W hW => ?_⟩) hS ?_
        rotate_left
        · have hcv := HCVN.out W (HB2.out.trans (hW.mono HB2.out.size)) (c - a)
          first | (go_simp; done) | (go_simp; with_reducible rfl)
        refine wpAnyH_ready (rs := [4]) (by kernel_rfl) (by simp) ?_
        refine AllReadyH.cons rfl (fun K hK => ?_) AllReadyH.nil
        go_simp
        go_wp2_with (go_at_call 14; refine (HN1.out _).mono ?_; rintro e w3 ⟨g3, c3, rfl, ho3, hbb⟩)
        have hS3 : Below w2.heap.size w2 w3 := hS.trans (hbb.mono hS.size)
        have hs3 := run_str _ c3 C w3 _ (ho3.row HC256.out ho3.lt.2)
        rw [HS1.out] at hs3
        clear ho3 hbb
        refine hK.out _ _ hS3 (fun hS => ?_)
        clear hK K
        refine wpAnyH_ready (rs := [5]) (by kernel_rfl) (by simp) ?_
        refine AllReadyH.cons rfl (fun K hK => ?_) AllReadyH.nil
        go_simp
        refine hK.out _ _ hS (fun hS => ?_)
        clear hK K hs3 hS3
        refine wpAnyH_take (i := 11) (v := ?_) rfl (by kernel_rfl) (by kernel_rfl) (by kernel_rfl) (fun _ _ _ h => h) (Yields.yieldsIf (Or.inl ⟨by kernel_rfl, ?_⟩)) hS ?_
        rotate_left
        · first | (intro w; go_simp; done) | (intro w; go_simp; with_reducible rfl)
        refine wpAnyH_take (i := 12) (v := ?_) rfl (by kernel_rfl) (by kernel_rfl) (by kernel_rfl) (fun _ _ _ h => h) (Yields.yieldsIf (Or.inl ⟨by kernel_rfl, ?_⟩)) hS ?_
        rotate_left
        · first | (intro w; go_simp; done) | (intro w; go_simp; with_reducible rfl)
        refine wpAnyH_done (by kernel_rfl) ?_ _
        have hb3 : Below w2.heap.size w2 w3 := hS
        clear hS
        have HR3 : Hid (Row w3 w3.heap.size (some ⟨b, off, none⟩) l) := HR2.out.up hb3
        have HT3 : Hid (Tab w3) := HT2.out.up hb3
        have HB3 : Hid (Below w.heap.size w w3) := HB2.out.trans (hb3.mono HB2.out.size)
        clear hb3
        go_wp2_with fail
        refine (HTT.out _ HR3.out).mono ?_
        rintro e w4 ⟨rfl, hb4⟩
        have HR4 : Hid (Row w4 w4.heap.size (some ⟨b, off, none⟩) l) := HR3.out.up hb4
        have HT4 : Hid (Tab w4) := HT3.out.up hb4
        have HB4 : Hid (Below w.heap.size w w4) := HB3.out.trans (hb4.mono HB3.out.size)
        clear hb4
        go_wp2
        go_quiet (fail)
        have hb5 := below_drewN (Below.refl w4.heap.size w4) nq
        generalize w4.drewN nq = w5 at *
        have HR5 : Hid (Row w5 w5.heap.size (some ⟨b, off, none⟩) l) := HR4.out.up hb5
        have HT5 : Hid (Tab w5) := HT4.out.up hb5
        have HB5 : Hid (Below w.heap.size w w5) := HB4.out.trans (hb5.mono HB4.out.size)
        clear hb5
        have hst5 := run_str (some ⟨b, off, none⟩) c l w5 _ HR5.out
        rw [HSL.out] at hst5
        go_wp2_with fail
        refine (HOP.out _ HT5.out).mono ?_
        rintro e w6 ⟨rfl, hb6⟩
        clear hst5
        have HR6 : Hid (Row w6 w6.heap.size (some ⟨b, off, none⟩) l) := HR5.out.up hb6
        have HT6 : Hid (Tab w6) := HT5.out.up hb6
        have HB6 : Hid (Below w.heap.size w w6) := HB5.out.trans (hb6.mono HB5.out.size)
        clear hb6
        go_wp2
        refine wp_region_held_drew (S := fun W => Below w6.heap.size w6 W) (by kernel_rfl) ((Below.refl _ _).drew) (fun hS => ?_)
        refine wpAnyH_take (i := 0) (v := ?_) rfl (by kernel_rfl) (by kernel_rfl) (by kernel_rfl) (fun _ _ _ h => h) (Yields.yieldsIf (Or.inl ⟨by kernel_rfl, ?_⟩)) hS ?_
        rotate_left
        · first | (intro w; go_simp; done) | (intro w; go_simp; with_reducible rfl)
        refine wpAnyH_take (i := 1) (v := ?_) rfl (by kernel_rfl) (by kernel_rfl) (by kernel_rfl) (fun _ _ _ h => h) (Yields.yieldsIf (Or.inl ⟨by kernel_rfl, ?_⟩)) hS ?_
        rotate_left
        · first | (intro w; go_simp; done) | (intro w; go_simp; with_reducible rfl)
        refine wpAnyH_take (i := 2) (v := ?_) rfl (by kernel_rfl) (by kernel_rfl) (by kernel_rfl) (fun _ _ _ h => h) (Yields.yieldsIf (Or.inl ⟨by kernel_rfl, ?_⟩)) hS ?_
        rotate_left
        · first | (intro w; go_simp; done) | (intro w; go_simp; with_reducible rfl)
        refine wpAnyH_take (i := 3) (v := ?_) rfl (by kernel_rfl) (by kernel_rfl) (by kernel_rfl) (fun _ _ _ h => h) (Yields.yieldsIf (Or.inl ⟨by kernel_rfl, ?_⟩)) hS ?_
        rotate_left
        · first | (intro w; go_simp; done) | (intro w; go_simp; with_reducible rfl)
        refine wpAnyH_take (i := 4) (v := ?_) rfl (by kernel_rfl) (by kernel_rfl) (by kernel_rfl) (fun _ _ _ h => h) (Yields.yieldsIf (Or.inl ⟨by kernel_rfl, ?_⟩)) hS ?_
        rotate_left
        · first | (intro w; go_simp; done) | (intro w; go_simp; with_reducible rfl)
        refine wpAnyH_take (i := 5) (v := ?_) rfl (by kernel_rfl) (by kernel_rfl) (by kernel_rfl) (fun _ _ _ h => h) (Yields.yieldsIf (Or.inl ⟨by kernel_rfl, ?_⟩)) hS ?_
        rotate_left
        · first | (intro w; go_simp; done) | (intro w; go_simp; with_reducible rfl)
        refine wpAnyH_take (i := 6) (v := ?_) rfl (by kernel_rfl) (by kernel_rfl) (by kernel_rfl) (fun _ _ _ h => h) (Yields.yieldsIf (Or.inl ⟨by kernel_rfl, ?_⟩)) hS ?_
        rotate_left
        · first | (intro w; go_simp; done) | (intro w; go_simp; with_reducible rfl)
        refine wpAnyH_take (i := 8) (v := ?_) rfl (by kernel_rfl) (by kernel_rfl) (by kernel_rfl) (fun _ _ _ h => h) (Yields.yieldsIf (Or.inl ⟨by kernel_rfl, ?_⟩)) hS ?_
        rotate_left
        · first | (intro w; go_simp; done) | (intro w; go_simp; with_reducible rfl)
        refine wpAnyH_take (i := 9) (v := ?_) rfl (by kernel_rfl) (by kernel_rfl) (by kernel_rfl) (fun _ _ _ h => h) (Yields.yieldsIf (Or.inl ⟨by kernel_rfl, ?_⟩)) hS ?_
        rotate_left
        · first | (intro w; go_simp; done) | (intro w; go_simp; with_reducible rfl)
        refine wpAnyH_take (i := 10) (v := ?_) rfl (by kernel_rfl) (by kernel_rfl) (by kernel_rfl) (fun _ _ _ h => h) (Yields.yieldsIf (Or.inl ⟨by kernel_rfl, ?_⟩)) hS ?_
        rotate_left
        · first | (intro w; go_simp; done) | (intro w; go_simp; with_reducible rfl)
        refine wpAnyH_take (i := 11) (v := ?_) rfl (by kernel_rfl) (by kernel_rfl) (by kernel_rfl) (fun _ _ _ h => h) (Yields.yieldsIf (Or.inl ⟨by kernel_rfl, ?_⟩)) hS ?_
        rotate_left
        · first | (intro w; go_simp; done) | (intro w; go_simp; with_reducible rfl)
        refine wpAnyH_take (i := 12) (v := ?_) rfl (by kernel_rfl) (by kernel_rfl) (by kernel_rfl) (fun _ _ _ h => h) (Or.inl ⟨by kernel_rfl, fun W hW => ?_⟩) hS ?_
        rotate_left
        · have hcv := HCVO.out W (HB6.out.trans (hW.mono HB6.out.size)) (c - a)
          first | (go_simp; done) | (go_simp; with_reducible rfl)
        refine wpAnyH_ready (rs := [7]) (by kernel_rfl) (by simp) ?_
        refine AllReadyH.cons rfl (fun K hK => ?_) AllReadyH.nil
        go_simp
        go_wp2_with (go_at_call 24; refine (HSE.out _ (HT6.out.up hS)).mono ?_; rintro e w7 ⟨rfl, hbb⟩)
        have hS3 : Below w6.heap.size w6 w7 := hS.trans (hbb.mono hS.size)
        clear hbb
        refine hK.out _ _ hS3 (fun hS => ?_)
        clear hK K hS3
        refine wpAnyH_take (i := 13) (v := ?_) rfl (by kernel_rfl) (by kernel_rfl) (by kernel_rfl) (fun _ _ _ h => h) (Yields.yieldsIf (Or.inl ⟨by kernel_rfl, ?_⟩)) hS ?_
        rotate_left
        · first | (intro w; go_simp; done) | (intro w; go_simp; with_reducible rfl)
        refine wpAnyH_take (i := 14) (v := ?_) rfl (by kernel_rfl) (by kernel_rfl) (by kernel_rfl) (fun _ _ _ h => h) (Yields.yieldsIf (Or.inl ⟨by kernel_rfl, ?_⟩)) hS ?_
        rotate_left
        · first | (intro w; go_simp; done) | (intro w; go_simp; with_reducible rfl)
        refine wpAnyH_take (i := 15) (v := ?_) rfl (by kernel_rfl) (by kernel_rfl) (by kernel_rfl) (fun _ _ _ h => h) (Yields.yieldsIf (Or.inl ⟨by kernel_rfl, ?_⟩)) hS ?_
        rotate_left
        · first | (intro w; go_simp; done) | (intro w; go_simp; with_reducible rfl)
        refine wpAnyH_take (i := 16) (v := ?_) rfl (by kernel_rfl) (by kernel_rfl) (by kernel_rfl) (fun _ _ _ h => h) (Yields.yieldsIf (Or.inl ⟨by kernel_rfl, ?_⟩)) hS ?_
        rotate_left
        · first | (intro w; go_simp; done) | (intro w; go_simp; with_reducible rfl)
        refine wpAnyH_done (by kernel_rfl) ?_ _
        have hb7 : Below w6.heap.size w6 w7 := hS
        clear hS
        have HR7 : Hid (Row w7 w7.heap.size (some ⟨b, off, none⟩) l) := HR6.out.up hb7
        have HT7 : Hid (Tab w7) := HT6.out.up hb7
        have HB7 : Hid (Below w.heap.size w w7) := HB6.out.trans (hb7.mono HB6.out.size)
        clear hb7
        go_wp2
        go_ret
        exact ⟨ret_bool rfl, HB7.out⟩
    | some tq =>
      obtain ⟨t, q⟩ := tq
      obtain ⟨haq, hql, ht256, htl, htake⟩ := text_one HR0.out.1 hTT
      rw [hTT] at HTT
      simp only [txtR] at HTT
      have hsz : (strB t).size = t.length := strB_size t
      have hbt : byt (strB t) = t := byt_strB t ht256
      have htx := fun W => text_any none 0 [] (strB t) W (Row.none_ _ _ _) (by rw [hsz]; simp; omega)
      rw [hsz, hbt] at htx
      simp only [List.nil_append, List.length_nil] at htx
      have hD256 : ∀ x ∈ M.code t.length ++ t, x < 256 := fun x hx => by
        rcases List.mem_append.1 hx with h | h
        · exact M.code_lt _ (by omega) x h
        · exact ht256 x h
      obtain ⟨D, hD⟩ : ∃ D, M.code t.length ++ t = D := ⟨_, rfl⟩
      rw [hD] at htx htake hD256
      obtain ⟨S2, hS2⟩ : ∃ S, strB D = S := ⟨_, rfl⟩
      have hcvT : ∀ W, Below w.heap.size w W → ∀ cc, (convert 22 9 (.slice (some ⟨b, off + a, none⟩) (q - a) cc)).run Tryd.prog W = .ok (.string S2) W := by
        intro W hW cc
        have h := (HR0.out.up hW).sub a (q - a)
        rw [htake] at h
        have hlen : D.length = q - a := by rw [← htake, List.length_take, List.length_drop]; omega
        have := run_str _ cc D W _ h
        rwa [hlen, hS2] at this
      obtain ⟨ST, hST⟩ : ∃ ST, strB t = ST := ⟨_, rfl⟩
      rw [hST] at HTT htx
      have HTX := Lib.hid htx
      have HCVT := Lib.hid hcvT
      have HD256 := Lib.hid hD256
      have HS2 := Lib.hid hS2
      clear ht256 htl htake hsz hbt htx hD256 hD hS2 hcvT hTT hST
      have haqI : (a : Int) ≤ (q : Int) := by omega
      have hqcI : (q : Int) ≤ (c : Int) := by omega
      cases hO : M.openV l a (l.length : Int) with
      | error e =>
        have he := openV_err hO
        rw [hO] at HOP
        simp only [opnR] at HOP
        have hneE : (((e : Nat) : Int) != 0) = true := by rcases he with rfl | rfl <;> rfl
        clear hO he
        go_enter Tryd.func8, Tryd.ntmps8
        go_wp2_with fail
        refine (shown_any _ HT0.out).mono ?_
        rintro e w1 ⟨rfl, hb1⟩
        have HR1 : Hid (Row w1 w1.heap.size (some ⟨b, off, none⟩) l) := HR0.out.up hb1
        have HT1 : Hid (Tab w1) := HT0.out.up hb1
        have HB1 : Hid (Below w.heap.size w w1) := HB0.out.trans (hb1.mono HB0.out.size)
        clear hb1
        go_wp2_with fail
        refine (HT1N.out _ HR1.out).mono ?_
        rintro e w2 ⟨rfl, hb2⟩
        have HR2 : Hid (Row w2 w2.heap.size (some ⟨b, off, none⟩) l) := HR1.out.up hb2
        have HT2 : Hid (Tab w2) := HT1.out.up hb2
        have HB2 : Hid (Below w.heap.size w w2) := HB1.out.trans (hb2.mono HB1.out.size)
        clear hb2
        go_wp2
        refine wp_region_held_drew (S := fun W => Below w2.heap.size w2 W) (by kernel_rfl) ((Below.refl _ _).drew) (fun hS => ?_)
        refine wpAnyH_take (i := 0) (v := ?_) rfl (by kernel_rfl) (by kernel_rfl) (by kernel_rfl) (fun _ _ _ h => h) (Yields.yieldsIf (Or.inl ⟨by kernel_rfl, ?_⟩)) hS ?_
        rotate_left
        · first | (intro w; go_simp; done) | (intro w; go_simp; with_reducible rfl)
        refine wpAnyH_take (i := 1) (v := ?_) rfl (by kernel_rfl) (by kernel_rfl) (by kernel_rfl) (fun _ _ _ h => h) (Yields.yieldsIf (Or.inl ⟨by kernel_rfl, ?_⟩)) hS ?_
        rotate_left
        · first | (intro w; go_simp; done) | (intro w; go_simp; with_reducible rfl)
        refine wpAnyH_take (i := 2) (v := ?_) rfl (by kernel_rfl) (by kernel_rfl) (by kernel_rfl) (fun _ _ _ h => h) (Yields.yieldsIf (Or.inl ⟨by kernel_rfl, ?_⟩)) hS ?_
        rotate_left
        · first | (intro w; go_simp; done) | (intro w; go_simp; with_reducible rfl)
        refine wpAnyH_take (i := 3) (v := ?_) rfl (by kernel_rfl) (by kernel_rfl) (by kernel_rfl) (fun _ _ _ h => h) (Yields.yieldsIf (Or.inl ⟨by kernel_rfl, ?_⟩)) hS ?_
        rotate_left
        · first | (intro w; go_simp; done) | (intro w; go_simp; with_reducible rfl)
        refine wpAnyH_take (i := 6) (v := ?_) rfl (by kernel_rfl) (by kernel_rfl) (by kernel_rfl) (fun _ _ _ h => h) (Yields.yieldsIf (Or.inl ⟨by kernel_rfl, ?_⟩)) hS ?_
        rotate_left
        · first | (intro w; go_simp; done) | (intro w; go_simp; with_reducible rfl)
        refine wpAnyH_take (i := 7) (v := ?_) rfl (by kernel_rfl) (by kernel_rfl) (by kernel_rfl) (fun _ _ _ h => h) (Yields.yieldsIf (Or.inl ⟨by kernel_rfl, ?_⟩)) hS ?_
        rotate_left
        · first | (intro w; go_simp; done) | (intro w; go_simp; with_reducible rfl)
        refine wpAnyH_take (i := 8) (v := ?_) rfl (by kernel_rfl) (by kernel_rfl) (by kernel_rfl) (fun _ _ _ h => h) (Yields.yieldsIf (Or.inl ⟨by kernel_rfl, ?_⟩)) hS ?_
        rotate_left
        · first | (intro w; go_simp; done) | (intro w; go_simp; with_reducible rfl)
        refine wpAnyH_take (i := 9) (v := ?_) rfl (by kernel_rfl) (by kernel_rfl) (by kernel_rfl) (fun _ _ _ h => h) (Yields.yieldsIf (Or.inl ⟨by kernel_rfl, ?_⟩)) hS ?_
        rotate_left
        · first | (intro w; go_simp; done) | (intro w; go_simp; with_reducible rfl)
        refine wpAnyH_take (i := 10) (v := ?_) rfl (by kernel_rfl) (by kernel_rfl) (by kernel_rfl) (fun _ _ _ h => h) (Or.inl ⟨by kernel_rfl, fun W hW => ?_⟩) hS ?_
        rotate_left
        · have hcv := HCVN.out W (HB2.out.trans (hW.mono HB2.out.size)) (c - a)
          first | (go_simp; done) | (go_simp; with_reducible rfl)
        refine wpAnyH_ready (rs := [4]) (by kernel_rfl) (by simp) ?_
        refine AllReadyH.cons rfl (fun K hK => ?_) AllReadyH.nil
        go_simp
        go_wp2_with (go_at_call 14; refine (HN1.out _).mono ?_; rintro e w3 ⟨g3, c3, rfl, ho3, hbb⟩)
        have hS3 : Below w2.heap.size w2 w3 := hS.trans (hbb.mono hS.size)
        have hs3 := run_str _ c3 C w3 _ (ho3.row HC256.out ho3.lt.2)
        rw [HS1.out] at hs3
        clear ho3 hbb
        refine hK.out _ _ hS3 (fun hS => ?_)
        clear hK K
        refine wpAnyH_ready (rs := [5]) (by kernel_rfl) (by simp) ?_
        refine AllReadyH.cons rfl (fun K hK => ?_) AllReadyH.nil
        go_simp
        refine hK.out _ _ hS (fun hS => ?_)
        clear hK K hs3 hS3
        refine wpAnyH_take (i := 11) (v := ?_) rfl (by kernel_rfl) (by kernel_rfl) (by kernel_rfl) (fun _ _ _ h => h) (Yields.yieldsIf (Or.inl ⟨by kernel_rfl, ?_⟩)) hS ?_
        rotate_left
        · first | (intro w; go_simp; done) | (intro w; go_simp; with_reducible rfl)
        refine wpAnyH_take (i := 12) (v := ?_) rfl (by kernel_rfl) (by kernel_rfl) (by kernel_rfl) (fun _ _ _ h => h) (Yields.yieldsIf (Or.inl ⟨by kernel_rfl, ?_⟩)) hS ?_
        rotate_left
        · first | (intro w; go_simp; done) | (intro w; go_simp; with_reducible rfl)
        refine wpAnyH_done (by kernel_rfl) ?_ _
        have hb3 : Below w2.heap.size w2 w3 := hS
        clear hS
        have HR3 : Hid (Row w3 w3.heap.size (some ⟨b, off, none⟩) l) := HR2.out.up hb3
        have HT3 : Hid (Tab w3) := HT2.out.up hb3
        have HB3 : Hid (Below w.heap.size w w3) := HB2.out.trans (hb3.mono HB2.out.size)
        clear hb3
        go_wp2_with fail
        refine (HTT.out _ HR3.out).mono ?_
        rintro e w4 ⟨rfl, hb4⟩
        have HR4 : Hid (Row w4 w4.heap.size (some ⟨b, off, none⟩) l) := HR3.out.up hb4
        have HT4 : Hid (Tab w4) := HT3.out.up hb4
        have HB4 : Hid (Below w.heap.size w w4) := HB3.out.trans (hb4.mono HB3.out.size)
        clear hb4
        go_wp2
        refine wp_region_held_drew (S := fun W => Below w4.heap.size w4 W) (by kernel_rfl) ((Below.refl _ _).drew) (fun hS => ?_)
        refine wpAnyH_take (i := 0) (v := ?_) rfl (by kernel_rfl) (by kernel_rfl) (by kernel_rfl) (fun _ _ _ h => h) (Yields.yieldsIf (Or.inl ⟨by kernel_rfl, ?_⟩)) hS ?_
        rotate_left
        · first | (intro w; go_simp; done) | (intro w; go_simp; with_reducible rfl)
        refine wpAnyH_take (i := 1) (v := ?_) rfl (by kernel_rfl) (by kernel_rfl) (by kernel_rfl) (fun _ _ _ h => h) (Yields.yieldsIf (Or.inl ⟨by kernel_rfl, ?_⟩)) hS ?_
        rotate_left
        · first | (intro w; go_simp; done) | (intro w; go_simp; with_reducible rfl)
        refine wpAnyH_take (i := 2) (v := ?_) rfl (by kernel_rfl) (by kernel_rfl) (by kernel_rfl) (fun _ _ _ h => h) (Yields.yieldsIf (Or.inl ⟨by kernel_rfl, ?_⟩)) hS ?_
        rotate_left
        · first | (intro w; go_simp; done) | (intro w; go_simp; with_reducible rfl)
        refine wpAnyH_take (i := 3) (v := ?_) rfl (by kernel_rfl) (by kernel_rfl) (by kernel_rfl) (fun _ _ _ h => h) (Yields.yieldsIf (Or.inl ⟨by kernel_rfl, ?_⟩)) hS ?_
        rotate_left
        · first | (intro w; go_simp; done) | (intro w; go_simp; with_reducible rfl)
        refine wpAnyH_take (i := 6) (v := ?_) rfl (by kernel_rfl) (by kernel_rfl) (by kernel_rfl) (fun _ _ _ h => h) (Yields.yieldsIf (Or.inl ⟨by kernel_rfl, ?_⟩)) hS ?_
        rotate_left
        · first | (intro w; go_simp; done) | (intro w; go_simp; with_reducible rfl)
        refine wpAnyH_take (i := 7) (v := ?_) rfl (by kernel_rfl) (by kernel_rfl) (by kernel_rfl) (fun _ _ _ h => h) (Yields.yieldsIf (Or.inl ⟨by kernel_rfl, ?_⟩)) hS ?_
        rotate_left
        · first | (intro w; go_simp; done) | (intro w; go_simp; with_reducible rfl)
        refine wpAnyH_take (i := 8) (v := ?_) rfl (by kernel_rfl) (by kernel_rfl) (by kernel_rfl) (fun _ _ _ h => h) (Yields.yieldsIf (Or.inl ⟨by kernel_rfl, ?_⟩)) hS ?_
        rotate_left
        · first | (intro w; go_simp; done) | (intro w; go_simp; with_reducible rfl)
        refine wpAnyH_take (i := 9) (v := ?_) rfl (by kernel_rfl) (by kernel_rfl) (by kernel_rfl) (fun _ _ _ h => h) (Yields.yieldsIf (Or.inl ⟨by kernel_rfl, ?_⟩)) hS ?_
        rotate_left
        · first | (intro w; go_simp; done) | (intro w; go_simp; with_reducible rfl)
        refine wpAnyH_take (i := 10) (v := ?_) rfl (by kernel_rfl) (by kernel_rfl) (by kernel_rfl) (fun _ _ _ h => h) (Or.inl ⟨by kernel_rfl, fun W hW => ?_⟩) hS ?_
        rotate_left
        · have hcv := HCVT.out W (HB4.out.trans (hW.mono HB4.out.size)) (c - a)
          first | (go_simp; done) | (go_simp; with_reducible rfl)
        refine wpAnyH_ready (rs := [4]) (by kernel_rfl) (by simp) ?_
        refine AllReadyH.cons rfl (fun K hK => ?_) AllReadyH.nil
        go_simp
        go_wp2_with (go_at_call 18; refine (HTX.out _).mono ?_; rintro e w5 ⟨g5, c5, rfl, ho5, hbb⟩)
        have hS3 : Below w4.heap.size w4 w5 := hS.trans (hbb.mono hS.size)
        have hs5 := run_str _ c5 D w5 _ (ho5.row HD256.out ho5.lt.2)
        rw [HS2.out] at hs5
        clear ho5 hbb
        refine hK.out _ _ hS3 (fun hS => ?_)
        clear hK K
        refine wpAnyH_ready (rs := [5]) (by kernel_rfl) (by simp) ?_
        refine AllReadyH.cons rfl (fun K hK => ?_) AllReadyH.nil
        go_simp
        refine hK.out _ _ hS (fun hS => ?_)
        clear hK K hs5 hS3
        refine wpAnyH_take (i := 11) (v := ?_) rfl (by kernel_rfl) (by kernel_rfl) (by kernel_rfl) (fun _ _ _ h => h) (Yields.yieldsIf (Or.inl ⟨by kernel_rfl, ?_⟩)) hS ?_
        rotate_left
        · first | (intro w; go_simp; done) | (intro w; go_simp; with_reducible rfl)
        refine wpAnyH_take (i := 12) (v := ?_) rfl (by kernel_rfl) (by kernel_rfl) (by kernel_rfl) (fun _ _ _ h => h) (Yields.yieldsIf (Or.inl ⟨by kernel_rfl, ?_⟩)) hS ?_
        rotate_left
        · first | (intro w; go_simp; done) | (intro w; go_simp; with_reducible rfl)
        refine wpAnyH_done (by kernel_rfl) ?_ _
        have hb5 : Below w4.heap.size w4 w5 := hS
        clear hS
        have HR5 : Hid (Row w5 w5.heap.size (some ⟨b, off, none⟩) l) := HR4.out.up hb5
        have HT5 : Hid (Tab w5) := HT4.out.up hb5
        have HB5 : Hid (Below w.heap.size w w5) := HB4.out.trans (hb5.mono HB4.out.size)
        clear hb5
        have hst5 := run_str (some ⟨b, off, none⟩) c l w5 _ HR5.out
        rw [HSL.out] at hst5
        go_wp2_with fail
        refine (HOP.out _ HT5.out).mono ?_
        rintro e w6 ⟨rfl, hb6⟩
        clear hst5
        have HR6 : Hid (Row w6 w6.heap.size (some ⟨b, off, none⟩) l) := HR5.out.up hb6
        have HT6 : Hid (Tab w6) := HT5.out.up hb6
        have HB6 : Hid (Below w.heap.size w w6) := HB5.out.trans (hb6.mono HB5.out.size)
        clear hb6
        go_wp2
        go_quiet (fail)
        have hb7 := below_drewN (Below.refl w6.heap.size w6) nq
        generalize w6.drewN nq = w7 at *
        have HR7 : Hid (Row w7 w7.heap.size (some ⟨b, off, none⟩) l) := HR6.out.up hb7
        have HT7 : Hid (Tab w7) := HT6.out.up hb7
        have HB7 : Hid (Below w.heap.size w w7) := HB6.out.trans (hb7.mono HB6.out.size)
        clear hb7
        go_wp2
        go_ret
        exact ⟨ret_bool rfl, HB7.out⟩
      | ok kr =>
        obtain ⟨k, t', r⟩ := kr
        obtain ⟨-, hrl, har, hk256, hb256, -, hbl, hseal⟩ := open_sealed HR0.out.1 hO
        rw [Int.toNat_natCast] at har hseal
        have HRL := Lib.hid hrl
        rw [hO] at HOP
        simp only [opnR] at HOP
        have hsz : (strB t').size = t'.length := strB_size t'
        have hbt : byt (strB t') = t' := byt_strB t' hb256
        have hse := fun W (h : Tab W) => seal_any k (strB t') W hk256 (by rw [hsz]; omega) h
        rw [hbt] at hse
        have hslen := M.sealed_length k t'
        have har2 : a < r := by
          have := congrArg List.length hseal
          rw [List.length_take, hslen] at this
          omega
        have hac : ¬ c = a := by omega
        obtain ⟨Z, hZ⟩ : ∃ Z, M.sealed k t' = Z := ⟨_, rfl⟩
        rw [hZ] at hse hseal
        obtain ⟨S3, hS3⟩ : ∃ S, strB Z = S := ⟨_, rfl⟩
        rw [hS3] at hse
        have hcvO : ∀ W, Below w.heap.size w W → ∀ cc, (convert 22 9 (.slice (some ⟨b, off + a, none⟩) (r - a) cc)).run Tryd.prog W = .ok (.string S3) W := by
          intro W hW cc
          have h := (HR0.out.up hW).sub a (r - a)
          rw [hseal] at h
          have hlen : Z.length = r - a := by rw [← hseal, List.length_take, List.length_drop]; omega
          have := run_str _ cc Z W _ h
          rwa [hlen, hS3] at this
        obtain ⟨SB, hSB⟩ : ∃ SB, strB t' = SB := ⟨_, rfl⟩
        rw [hSB] at HOP hse
        have HSE := Lib.hid hse
        have HCVO := Lib.hid hcvO
        clear hrl har hk256 hb256 hbl hseal hsz hbt hse hslen hZ hS3 hcvO hO hSB
        have harI : (a : Int) ≤ (r : Int) := by omega
        have hrcI : (r : Int) ≤ (c : Int) := by have := HRC.out r HRL.out; omega
        go_enter Tryd.func8, Tryd.ntmps8
        go_wp2_with fail
        refine (shown_any _ HT0.out).mono ?_
        rintro e w1 ⟨rfl, hb1⟩
        have HR1 : Hid (Row w1 w1.heap.size (some ⟨b, off, none⟩) l) := HR0.out.up hb1
        have HT1 : Hid (Tab w1) := HT0.out.up hb1
        have HB1 : Hid (Below w.heap.size w w1) := HB0.out.trans (hb1.mono HB0.out.size)
        clear hb1
        go_wp2_with fail
        refine (HT1N.out _ HR1.out).mono ?_
        rintro e w2 ⟨rfl, hb2⟩
        have HR2 : Hid (Row w2 w2.heap.size (some ⟨b, off, none⟩) l) := HR1.out.up hb2
        have HT2 : Hid (Tab w2) := HT1.out.up hb2
        have HB2 : Hid (Below w.heap.size w w2) := HB1.out.trans (hb2.mono HB1.out.size)
        clear hb2
        go_wp2
        refine wp_region_held_drew (S := fun W => Below w2.heap.size w2 W) (by kernel_rfl) ((Below.refl _ _).drew) (fun hS => ?_)
        refine wpAnyH_take (i := 0) (v := ?_) rfl (by kernel_rfl) (by kernel_rfl) (by kernel_rfl) (fun _ _ _ h => h) (Yields.yieldsIf (Or.inl ⟨by kernel_rfl, ?_⟩)) hS ?_
        rotate_left
        · first | (intro w; go_simp; done) | (intro w; go_simp; with_reducible rfl)
        refine wpAnyH_take (i := 1) (v := ?_) rfl (by kernel_rfl) (by kernel_rfl) (by kernel_rfl) (fun _ _ _ h => h) (Yields.yieldsIf (Or.inl ⟨by kernel_rfl, ?_⟩)) hS ?_
        rotate_left
        · first | (intro w; go_simp; done) | (intro w; go_simp; with_reducible rfl)
        refine wpAnyH_take (i := 2) (v := ?_) rfl (by kernel_rfl) (by kernel_rfl) (by kernel_rfl) (fun _ _ _ h => h) (Yields.yieldsIf (Or.inl ⟨by kernel_rfl, ?_⟩)) hS ?_
        rotate_left
        · first | (intro w; go_simp; done) | (intro w; go_simp; with_reducible rfl)
        refine wpAnyH_take (i := 3) (v := ?_) rfl (by kernel_rfl) (by kernel_rfl) (by kernel_rfl) (fun _ _ _ h => h) (Yields.yieldsIf (Or.inl ⟨by kernel_rfl, ?_⟩)) hS ?_
        rotate_left
        · first | (intro w; go_simp; done) | (intro w; go_simp; with_reducible rfl)
        refine wpAnyH_take (i := 6) (v := ?_) rfl (by kernel_rfl) (by kernel_rfl) (by kernel_rfl) (fun _ _ _ h => h) (Yields.yieldsIf (Or.inl ⟨by kernel_rfl, ?_⟩)) hS ?_
        rotate_left
        · first | (intro w; go_simp; done) | (intro w; go_simp; with_reducible rfl)
        refine wpAnyH_take (i := 7) (v := ?_) rfl (by kernel_rfl) (by kernel_rfl) (by kernel_rfl) (fun _ _ _ h => h) (Yields.yieldsIf (Or.inl ⟨by kernel_rfl, ?_⟩)) hS ?_
        rotate_left
        · first | (intro w; go_simp; done) | (intro w; go_simp; with_reducible rfl)
        refine wpAnyH_take (i := 8) (v := ?_) rfl (by kernel_rfl) (by kernel_rfl) (by kernel_rfl) (fun _ _ _ h => h) (Yields.yieldsIf (Or.inl ⟨by kernel_rfl, ?_⟩)) hS ?_
        rotate_left
        · first | (intro w; go_simp; done) | (intro w; go_simp; with_reducible rfl)
        refine wpAnyH_take (i := 9) (v := ?_) rfl (by kernel_rfl) (by kernel_rfl) (by kernel_rfl) (fun _ _ _ h => h) (Yields.yieldsIf (Or.inl ⟨by kernel_rfl, ?_⟩)) hS ?_
        rotate_left
        · first | (intro w; go_simp; done) | (intro w; go_simp; with_reducible rfl)
        refine wpAnyH_take (i := 10) (v := ?_) rfl (by kernel_rfl) (by kernel_rfl) (by kernel_rfl) (fun _ _ _ h => h) (Or.inl ⟨by kernel_rfl, fun W hW => ?_⟩) hS ?_
        rotate_left
        · have hcv := HCVN.out W (HB2.out.trans (hW.mono HB2.out.size)) (c - a)
          first | (go_simp; done) | (go_simp; with_reducible rfl)
        refine wpAnyH_ready (rs := [4]) (by kernel_rfl) (by simp) ?_
        refine AllReadyH.cons rfl (fun K hK => ?_) AllReadyH.nil
        go_simp
        go_wp2_with (go_at_call 14; refine (HN1.out _).mono ?_; rintro e w3 ⟨g3, c3, rfl, ho3, hbb⟩)
        have hS3 : Below w2.heap.size w2 w3 := hS.trans (hbb.mono hS.size)
        have hs3 := run_str _ c3 C w3 _ (ho3.row HC256.out ho3.lt.2)
        rw [HS1.out] at hs3
        clear ho3 hbb
        refine hK.out _ _ hS3 (fun hS => ?_)
        clear hK K
        refine wpAnyH_ready (rs := [5]) (by kernel_rfl) (by simp) ?_
        refine AllReadyH.cons rfl (fun K hK => ?_) AllReadyH.nil
        go_simp
        refine hK.out _ _ hS (fun hS => ?_)
        clear hK K hs3 hS3
        refine wpAnyH_take (i := 11) (v := ?_) rfl (by kernel_rfl) (by kernel_rfl) (by kernel_rfl) (fun _ _ _ h => h) (Yields.yieldsIf (Or.inl ⟨by kernel_rfl, ?_⟩)) hS ?_
        rotate_left
        · first | (intro w; go_simp; done) | (intro w; go_simp; with_reducible rfl)
        refine wpAnyH_take (i := 12) (v := ?_) rfl (by kernel_rfl) (by kernel_rfl) (by kernel_rfl) (fun _ _ _ h => h) (Yields.yieldsIf (Or.inl ⟨by kernel_rfl, ?_⟩)) hS ?_
        rotate_left
        · first | (intro w; go_simp; done) | (intro w; go_simp; with_reducible rfl)
        refine wpAnyH_done (by kernel_rfl) ?_ _
        have hb3 : Below w2.heap.size w2 w3 := hS
        clear hS
        have HR3 : Hid (Row w3 w3.heap.size (some ⟨b, off, none⟩) l) := HR2.out.up hb3
        have HT3 : Hid (Tab w3) := HT2.out.up hb3
        have HB3 : Hid (Below w.heap.size w w3) := HB2.out.trans (hb3.mono HB2.out.size)
        clear hb3
        go_wp2_with fail
        refine (HTT.out _ HR3.out).mono ?_
        rintro e w4 ⟨rfl, hb4⟩
        have HR4 : Hid (Row w4 w4.heap.size (some ⟨b, off, none⟩) l) := HR3.out.up hb4
        have HT4 : Hid (Tab w4) := HT3.out.up hb4
        have HB4 : Hid (Below w.heap.size w w4) := HB3.out.trans (hb4.mono HB3.out.size)
        clear hb4
        go_wp2
        refine wp_region_held_drew (S := fun W => Below w4.heap.size w4 W) (by kernel_rfl) ((Below.refl _ _).drew) (fun hS => ?_)
        refine wpAnyH_take (i := 0) (v := ?_) rfl (by kernel_rfl) (by kernel_rfl) (by kernel_rfl) (fun _ _ _ h => h) (Yields.yieldsIf (Or.inl ⟨by kernel_rfl, ?_⟩)) hS ?_
        rotate_left
        · first | (intro w; go_simp; done) | (intro w; go_simp; with_reducible rfl)
        refine wpAnyH_take (i := 1) (v := ?_) rfl (by kernel_rfl) (by kernel_rfl) (by kernel_rfl) (fun _ _ _ h => h) (Yields.yieldsIf (Or.inl ⟨by kernel_rfl, ?_⟩)) hS ?_
        rotate_left
        · first | (intro w; go_simp; done) | (intro w; go_simp; with_reducible rfl)
        refine wpAnyH_take (i := 2) (v := ?_) rfl (by kernel_rfl) (by kernel_rfl) (by kernel_rfl) (fun _ _ _ h => h) (Yields.yieldsIf (Or.inl ⟨by kernel_rfl, ?_⟩)) hS ?_
        rotate_left
        · first | (intro w; go_simp; done) | (intro w; go_simp; with_reducible rfl)
        refine wpAnyH_take (i := 3) (v := ?_) rfl (by kernel_rfl) (by kernel_rfl) (by kernel_rfl) (fun _ _ _ h => h) (Yields.yieldsIf (Or.inl ⟨by kernel_rfl, ?_⟩)) hS ?_
        rotate_left
        · first | (intro w; go_simp; done) | (intro w; go_simp; with_reducible rfl)
        refine wpAnyH_take (i := 6) (v := ?_) rfl (by kernel_rfl) (by kernel_rfl) (by kernel_rfl) (fun _ _ _ h => h) (Yields.yieldsIf (Or.inl ⟨by kernel_rfl, ?_⟩)) hS ?_
        rotate_left
        · first | (intro w; go_simp; done) | (intro w; go_simp; with_reducible rfl)
        refine wpAnyH_take (i := 7) (v := ?_) rfl (by kernel_rfl) (by kernel_rfl) (by kernel_rfl) (fun _ _ _ h => h) (Yields.yieldsIf (Or.inl ⟨by kernel_rfl, ?_⟩)) hS ?_
        rotate_left
        · first | (intro w; go_simp; done) | (intro w; go_simp; with_reducible rfl)
        refine wpAnyH_take (i := 8) (v := ?_) rfl (by kernel_rfl) (by kernel_rfl) (by kernel_rfl) (fun _ _ _ h => h) (Yields.yieldsIf (Or.inl ⟨by kernel_rfl, ?_⟩)) hS ?_
        rotate_left
        · first | (intro w; go_simp; done) | (intro w; go_simp; with_reducible rfl)
        refine wpAnyH_take (i := 9) (v := ?_) rfl (by kernel_rfl) (by kernel_rfl) (by kernel_rfl) (fun _ _ _ h => h) (Yields.yieldsIf (Or.inl ⟨by kernel_rfl, ?_⟩)) hS ?_
        rotate_left
        · first | (intro w; go_simp; done) | (intro w; go_simp; with_reducible rfl)
        refine wpAnyH_take (i := 10) (v := ?_) rfl (by kernel_rfl) (by kernel_rfl) (by kernel_rfl) (fun _ _ _ h => h) (Or.inl ⟨by kernel_rfl, fun W hW => ?_⟩) hS ?_
        rotate_left
        · have hcv := HCVT.out W (HB4.out.trans (hW.mono HB4.out.size)) (c - a)
          first | (go_simp; done) | (go_simp; with_reducible rfl)
        refine wpAnyH_ready (rs := [4]) (by kernel_rfl) (by simp) ?_
        refine AllReadyH.cons rfl (fun K hK => ?_) AllReadyH.nil
        go_simp
        go_wp2_with (go_at_call 18; refine (HTX.out _).mono ?_; rintro e w5 ⟨g5, c5, rfl, ho5, hbb⟩)
        have hS3 : Below w4.heap.size w4 w5 := hS.trans (hbb.mono hS.size)
        have hs5 := run_str _ c5 D w5 _ (ho5.row HD256.out ho5.lt.2)
        rw [HS2.out] at hs5
        clear ho5 hbb
        refine hK.out _ _ hS3 (fun hS => ?_)
        clear hK K
        refine wpAnyH_ready (rs := [5]) (by kernel_rfl) (by simp) ?_
        refine AllReadyH.cons rfl (fun K hK => ?_) AllReadyH.nil
        go_simp
        refine hK.out _ _ hS (fun hS => ?_)
        clear hK K hs5 hS3
        refine wpAnyH_take (i := 11) (v := ?_) rfl (by kernel_rfl) (by kernel_rfl) (by kernel_rfl) (fun _ _ _ h => h) (Yields.yieldsIf (Or.inl ⟨by kernel_rfl, ?_⟩)) hS ?_
        rotate_left
        · first | (intro w; go_simp; done) | (intro w; go_simp; with_reducible rfl)
        refine wpAnyH_take (i := 12) (v := ?_) rfl (by kernel_rfl) (by kernel_rfl) (by kernel_rfl) (fun _ _ _ h => h) (Yields.yieldsIf (Or.inl ⟨by kernel_rfl, ?_⟩)) hS ?_
        rotate_left
        · first | (intro w; go_simp; done) | (intro w; go_simp; with_reducible rfl)
        refine wpAnyH_done (by kernel_rfl) ?_ _
        have hb5 : Below w4.heap.size w4 w5 := hS
        clear hS
        have HR5 : Hid (Row w5 w5.heap.size (some ⟨b, off, none⟩) l) := HR4.out.up hb5
        have HT5 : Hid (Tab w5) := HT4.out.up hb5
        have HB5 : Hid (Below w.heap.size w w5) := HB4.out.trans (hb5.mono HB4.out.size)
        clear hb5
        have hst5 := run_str (some ⟨b, off, none⟩) c l w5 _ HR5.out
        rw [HSL.out] at hst5
        go_wp2_with fail
        refine (HOP.out _ HT5.out).mono ?_
        rintro e w6 ⟨rfl, hb6⟩
        clear hst5
        have HR6 : Hid (Row w6 w6.heap.size (some ⟨b, off, none⟩) l) := HR5.out.up hb6
        have HT6 : Hid (Tab w6) := HT5.out.up hb6
        have HB6 : Hid (Below w.heap.size w w6) := HB5.out.trans (hb6.mono HB5.out.size)
        clear hb6
        go_wp2
        refine wp_region_held_drew (S := fun W => Below w6.heap.size w6 W) (by kernel_rfl) ((Below.refl _ _).drew) (fun hS => ?_)
        refine wpAnyH_take (i := 0) (v := ?_) rfl (by kernel_rfl) (by kernel_rfl) (by kernel_rfl) (fun _ _ _ h => h) (Yields.yieldsIf (Or.inl ⟨by kernel_rfl, ?_⟩)) hS ?_
        rotate_left
        · first | (intro w; go_simp; done) | (intro w; go_simp; with_reducible rfl)
        refine wpAnyH_take (i := 1) (v := ?_) rfl (by kernel_rfl) (by kernel_rfl) (by kernel_rfl) (fun _ _ _ h => h) (Yields.yieldsIf (Or.inl ⟨by kernel_rfl, ?_⟩)) hS ?_
        rotate_left
        · first | (intro w; go_simp; done) | (intro w; go_simp; with_reducible rfl)
        refine wpAnyH_take (i := 2) (v := ?_) rfl (by kernel_rfl) (by kernel_rfl) (by kernel_rfl) (fun _ _ _ h => h) (Yields.yieldsIf (Or.inl ⟨by kernel_rfl, ?_⟩)) hS ?_
        rotate_left
        · first | (intro w; go_simp; done) | (intro w; go_simp; with_reducible rfl)
        refine wpAnyH_take (i := 3) (v := ?_) rfl (by kernel_rfl) (by kernel_rfl) (by kernel_rfl) (fun _ _ _ h => h) (Yields.yieldsIf (Or.inl ⟨by kernel_rfl, ?_⟩)) hS ?_
        rotate_left
        · first | (intro w; go_simp; done) | (intro w; go_simp; with_reducible rfl)
        refine wpAnyH_take (i := 4) (v := ?_) rfl (by kernel_rfl) (by kernel_rfl) (by kernel_rfl) (fun _ _ _ h => h) (Yields.yieldsIf (Or.inl ⟨by kernel_rfl, ?_⟩)) hS ?_
        rotate_left
        · first | (intro w; go_simp; done) | (intro w; go_simp; with_reducible rfl)
        refine wpAnyH_take (i := 5) (v := ?_) rfl (by kernel_rfl) (by kernel_rfl) (by kernel_rfl) (fun _ _ _ h => h) (Yields.yieldsIf (Or.inl ⟨by kernel_rfl, ?_⟩)) hS ?_
        rotate_left
        · first | (intro w; go_simp; done) | (intro w; go_simp; with_reducible rfl)
        refine wpAnyH_take (i := 6) (v := ?_) rfl (by kernel_rfl) (by kernel_rfl) (by kernel_rfl) (fun _ _ _ h => h) (Yields.yieldsIf (Or.inl ⟨by kernel_rfl, ?_⟩)) hS ?_
        rotate_left
        · first | (intro w; go_simp; done) | (intro w; go_simp; with_reducible rfl)
        refine wpAnyH_take (i := 8) (v := ?_) rfl (by kernel_rfl) (by kernel_rfl) (by kernel_rfl) (fun _ _ _ h => h) (Yields.yieldsIf (Or.inl ⟨by kernel_rfl, ?_⟩)) hS ?_
        rotate_left
        · first | (intro w; go_simp; done) | (intro w; go_simp; with_reducible rfl)
        refine wpAnyH_take (i := 9) (v := ?_) rfl (by kernel_rfl) (by kernel_rfl) (by kernel_rfl) (fun _ _ _ h => h) (Yields.yieldsIf (Or.inl ⟨by kernel_rfl, ?_⟩)) hS ?_
        rotate_left
        · first | (intro w; go_simp; done) | (intro w; go_simp; with_reducible rfl)
        refine wpAnyH_take (i := 10) (v := ?_) rfl (by kernel_rfl) (by kernel_rfl) (by kernel_rfl) (fun _ _ _ h => h) (Yields.yieldsIf (Or.inl ⟨by kernel_rfl, ?_⟩)) hS ?_
        rotate_left
        · first | (intro w; go_simp; done) | (intro w; go_simp; with_reducible rfl)
        refine wpAnyH_take (i := 11) (v := ?_) rfl (by kernel_rfl) (by kernel_rfl) (by kernel_rfl) (fun _ _ _ h => h) (Yields.yieldsIf (Or.inl ⟨by kernel_rfl, ?_⟩)) hS ?_
        rotate_left
        · first | (intro w; go_simp; done) | (intro w; go_simp; with_reducible rfl)
        refine wpAnyH_take (i := 12) (v := ?_) rfl (by kernel_rfl) (by kernel_rfl) (by kernel_rfl) (fun _ _ _ h => h) (Or.inl ⟨by kernel_rfl, fun W hW => ?_⟩) hS ?_
        rotate_left
        · have hcv := HCVO.out W (HB6.out.trans (hW.mono HB6.out.size)) (c - a)
          first | (go_simp; done) | (go_simp; with_reducible rfl)
        refine wpAnyH_ready (rs := [7]) (by kernel_rfl) (by simp) ?_
        refine AllReadyH.cons rfl (fun K hK => ?_) AllReadyH.nil
        go_simp
        go_wp2_with (go_at_call 24; refine (HSE.out _ (HT6.out.up hS)).mono ?_; rintro e w7 ⟨rfl, hbb⟩)
        have hS3 : Below w6.heap.size w6 w7 := hS.trans (hbb.mono hS.size)
        clear hbb
        refine hK.out _ _ hS3 (fun hS => ?_)
        clear hK K hS3
        refine wpAnyH_take (i := 13) (v := ?_) rfl (by kernel_rfl) (by kernel_rfl) (by kernel_rfl) (fun _ _ _ h => h) (Yields.yieldsIf (Or.inl ⟨by kernel_rfl, ?_⟩)) hS ?_
        rotate_left
        · first | (intro w; go_simp; done) | (intro w; go_simp; with_reducible rfl)
        refine wpAnyH_take (i := 14) (v := ?_) rfl (by kernel_rfl) (by kernel_rfl) (by kernel_rfl) (fun _ _ _ h => h) (Yields.yieldsIf (Or.inl ⟨by kernel_rfl, ?_⟩)) hS ?_
        rotate_left
        · first | (intro w; go_simp; done) | (intro w; go_simp; with_reducible rfl)
        refine wpAnyH_take (i := 15) (v := ?_) rfl (by kernel_rfl) (by kernel_rfl) (by kernel_rfl) (fun _ _ _ h => h) (Yields.yieldsIf (Or.inl ⟨by kernel_rfl, ?_⟩)) hS ?_
        rotate_left
        · first | (intro w; go_simp; done) | (intro w; go_simp; with_reducible rfl)
        refine wpAnyH_take (i := 16) (v := ?_) rfl (by kernel_rfl) (by kernel_rfl) (by kernel_rfl) (fun _ _ _ h => h) (Yields.yieldsIf (Or.inl ⟨by kernel_rfl, ?_⟩)) hS ?_
        rotate_left
        · first | (intro w; go_simp; done) | (intro w; go_simp; with_reducible rfl)
        refine wpAnyH_done (by kernel_rfl) ?_ _
        have hb7 : Below w6.heap.size w6 w7 := hS
        clear hS
        have HR7 : Hid (Row w7 w7.heap.size (some ⟨b, off, none⟩) l) := HR6.out.up hb7
        have HT7 : Hid (Tab w7) := HT6.out.up hb7
        have HB7 : Hid (Below w.heap.size w w7) := HB6.out.trans (hb7.mono HB6.out.size)
        clear hb7
        go_wp2
        go_ret
        exact ⟨ret_bool rfl, HB7.out⟩

theorem walk (A : Option Addr) (c : Nat) (l : List Nat) (a : Int) (w : World) (ht : Tab w) (hr : Row w w.heap.size A l) (hl : l.length ≤ 140737488351232) (hcap : l.length ≤ c) (ha : -9223372036854775808 ≤ a ∧ a ≤ 9223372036854775807) :
    Calls Tryd.prog 8 #[.slice A l.length c, .int .i64 a] w fun e w' => e = .returned (.bool true) ∧ Below w.heap.size w w' := by
  by_cases h0 : a < 0
  · exact walk_neg A c l a w ht hr hl hcap ha.1 h0
  · obtain ⟨a, rfl⟩ : ∃ n : Nat, a = n := ⟨a.toNat, by omega⟩
    exact walk_pos A c l a w ht hr hl hcap ha.2
end wireOne
end Go.Proofs.YthnffebjjnbakaaDoor
