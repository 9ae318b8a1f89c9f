/-
  Open.
-/
import Derived.Test.YthnffebjjnbakaaDoorOpMath
namespace Go.Proofs.YthnffebjjnbakaaDoor
open Go.RowKit

theorem results_tmp4 {fn : Func} {t u v x : Tmp} (h : fn.results = #[.tmp t, .tmp u, .tmp v, .tmp x]) (tmps : Array Value) (P : Program) (w : World) :
    (results fn tmps).run P w = .ok (.tuple #[tmps.getD t undef, tmps.getD u undef, tmps.getD v undef, tmps.getD x undef]) w := by
  simp [results, h]
theorem openV_in (l : List Nat) (a : Nat) (h : a ≤ l.length) (m : Int) : M.openV l a m = match M.openR (l.drop a) m with | .error e => .error e | .ok (k, b, q) => .ok (k, b, a + q) := by
  unfold M.openV
  rw [if_pos ⟨by omega, by omega⟩, Int.toNat_natCast]
  rfl

theorem Row.cellAt {w : World} {B b off : Nat} {l : List Nat} (h : Row w B (some ⟨b, off, none⟩) l) (j : Nat) (hj : j < l.length) : w.cell? ⟨b, off + j, none⟩ = some (.int .u8 ((l[j]?.getD 0 : Nat) : Int)) := by
  obtain ⟨b', off', e, _, hc⟩ := h.2 (by omega)
  injection e with e
  injection e with e1 e2
  subst e1 e2
  exact hc j hj

set_option maxRecDepth 100000 in
set_option maxHeartbeats 3200000 in
theorem open_any (s : ByteArray) (a m : Int) (w : World) (hl : s.size ≤ 281474976710000) (ht : Tab w) (ha1 : -9223372036854775808 ≤ a) (ha2 : a ≤ 9223372036854775807) (hm1 : -9223372036854775808 ≤ m) (hm2 : m ≤ 9223372036854775807) :
    Calls Tryd.prog 22 #[.string s, .int .i64 a, .int .i64 m] w fun e w' => e = .returned (opnR (M.openV (byt s) a m)) ∧ Below w.heap.size w w' := by
  by_cases h0 : a < 0
  · have HT : Hid (M.openV (byt s) a m = .error 20) := if_neg (by omega)
    go_enter Tryd.func22, Tryd.ntmps22
    go_wp2
    (try simp only [Exit.inBlock, Exit.then]); refine bodyPost_ret (results_tmp4 rfl _ _ _) rfl ?_
    rw [HT.out]
    exact ⟨rfl, Below.refl _ _⟩
  · by_cases h1 : (s.size : Int) < a
    · have HT : Hid (M.openV (byt s) a m = .error 20) := if_neg (by rw [byt_length]; omega)
      go_enter Tryd.func22, Tryd.ntmps22
      go_wp2
      (try simp only [Exit.inBlock, Exit.then]); refine bodyPost_ret (results_tmp4 rfl _ _ _) rfl ?_
      rw [HT.out]
      exact ⟨rfl, Below.refl _ _⟩
    · obtain ⟨a, rfl⟩ : ∃ n : Nat, a = n := ⟨a.toNat, by omega⟩
      have hal : a ≤ s.size := by omega
      clear ha1 ha2 h0 h1
      have HV := Lib.hid (openV_in (byt s) a (by rw [byt_length]; exact hal) m)
      have HRB := Lib.hid (byt_drop s a)
      obtain ⟨r, hrest⟩ : ∃ r, s.extract a s.size = r := ⟨_, rfl⟩
      have hrs : r.size = s.size - a := by rw [← hrest, ByteArray.size_extract]; omega
      have hrl : r.size ≤ 281474976710000 := by omega
      have hars : a + r.size ≤ 281474976710000 := by omega
      rw [hrest] at HRB
      obtain ⟨h, hh⟩ : ∃ h, min r.size 10 = h := ⟨_, rfl⟩
      have hmin : (if (10 : Int) < (r.size : Int) then (10 : Int) else (r.size : Int)) = (h : Int) := by rw [← hh]; split <;> omega
      have hhr : h ≤ r.size := by omega
      obtain ⟨d, hd⟩ : ∃ d, r.extract 0 h = d := ⟨_, rfl⟩
      have HDB : Hid (byt d = (byt r).take h) := by show _ = _; rw [← hd, byt_extract]; simp
      have hds : d.size = h := by rw [← hd, ByteArray.size_extract]; omega
      obtain ⟨c1, w1, hcv, hr1, hb1, -, -⟩ := run_byt d w
      have hnum := takeNumber_any _ c1 (byt d) 1 w1 hr1 (by rw [byt_length]; omega) (by omega) (by omega)
      have hTN : M.takeN (byt d) 1 = M.takeN (byt r) 1 := by
        rw [HDB.out, ← hh]
        rcases Nat.le_total r.size 10 with h | h
        · rw [Nat.min_eq_left h, List.take_of_length_le (by rw [byt_length]; omega)]
        · rw [Nat.min_eq_right h]; exact takeN_take _ (byt_lt r) 10 (by omega)
      rw [hTN, byt_length] at hnum
      have HB1 := Lib.hid hb1
      have HH := Lib.hid hh
      rw [hds] at hcv hnum
      have HDS := Lib.hid hds
      have HRS := Lib.hid hrs
      clear hh hds hTN hr1 hb1 hrs
      cases hT : M.takeN (byt r) 1 with
      | none =>
        have HT : Hid (M.openV (byt s) a m = .error 20) := by show _ = _; rw [HV.out, ← HRB.out]; unfold M.openR; rw [hT]
        rw [hT] at hnum
        simp only [numR] at hnum
        clear hT
        go_enter Tryd.func22, Tryd.ntmps22
        go_wp2_with fail
        refine hnum.mono ?_
        rintro e w2 ⟨rfl, hb2⟩
        have HB2 : Hid (Below w.heap.size w w2) := HB1.out.trans (hb2.mono HB1.out.size)
        clear hb2
        have hne : ((20 : Int) != 0) = true := rfl
        go_wp2
        (try simp only [Exit.inBlock, Exit.then]); refine bodyPost_ret (results_tmp4 rfl _ _ _) rfl ?_
        rw [HT.out]
        exact ⟨rfl, HB2.out⟩
      | some np =>
        obtain ⟨n, p⟩ := np
        obtain ⟨-, hn64, -, hpl, -⟩ := takeN_some (byt_lt r) hT
        rw [byt_length] at hpl
        rw [hT] at hnum
        simp only [numR] at hnum
        have hf1 := fun w => fits_any n m w hn64 hm1 (by omega)
        have hf2 := fun w => fits_any n ((r.size : Int) - (p : Int) - 4) w hn64 (by omega) (by omega)
        by_cases hA : (n : Int) ≤ m
        · have hA' : decide ((n : Int) ≤ m) = true := decide_eq_true hA
          rw [hA'] at hf1
          by_cases hB : p + n + 4 ≤ r.size
          · have hB' : decide ((n : Int) ≤ (r.size : Int) - (p : Int) - 4) = true := decide_eq_true (by omega)
            rw [hB'] at hf2
            clear hA' hB'
            obtain ⟨q, hq⟩ : ∃ q, p + n = q := ⟨_, rfl⟩
            have HOV : Hid (M.openV (byt s) a m = if ((byt r).drop q).take 4 = M.le4 (M.crc ((byt r).take q)) then .ok ((byt r)[0]?.getD 0, ((byt r).drop p).take n, a + (q + 4)) else .error 21) := by
              show _ = _
              rw [HV.out, ← HRB.out]
              unfold M.openR
              rw [hT]
              dsimp only
              rw [if_pos ⟨hA, by rw [byt_length]; exact hB⟩, hq]
              by_cases hx : ((byt r).drop q).take 4 = M.le4 (M.crc ((byt r).take q))
              · rw [if_pos hx, if_pos hx]
              · rw [if_neg hx, if_neg hx]
            have hhead := (head_of (byt_lt r) hT (by rw [byt_length]; omega)).1
            obtain ⟨rec, hrec⟩ : ∃ rec, r.extract 0 q = rec := ⟨_, rfl⟩
            obtain ⟨t4, ht4⟩ : ∃ t4, r.extract q (q + 4) = t4 := ⟨_, rfl⟩
            have HREC : Hid (byt rec = (byt r).take q) := by show _ = _; rw [← hrec, byt_extract]; simp
            have HT4 : Hid (byt t4 = ((byt r).drop q).take 4) := by show _ = _; rw [← ht4, byt_extract, Nat.add_sub_cancel_left]
            have hrecs : rec.size = q := by rw [← hrec, ByteArray.size_extract]; omega
            have hqr : q + 4 ≤ r.size := by omega
            have hnn : n ≤ 281474976710000 := by omega
            have hpp : p ≤ q := by omega
            have HQ := Lib.hid hq
            clear hT hB hA hn64 hpl
            have hpn : (p : Int) + (n : Int) = (q : Int) := by have := HQ.out; omega
            have HPN := Lib.hid hpn
            go_enter Tryd.func22, Tryd.ntmps22
            go_wp2_with fail
            refine hnum.mono ?_
            rintro e w2 ⟨rfl, hb2⟩
            have HB2 : Hid (Below w.heap.size w w2) := HB1.out.trans (hb2.mono HB1.out.size)
            clear hb2
            go_wp2_with fail
            refine (hf1 _).mono ?_
            rintro e w3 ⟨rfl, rfl⟩
            go_wp2_with fail
            refine (hf2 _).mono ?_
            rintro e w3 ⟨rfl, rfl⟩
            obtain ⟨c3, w3, hcv3, hr3, hb3, -, hc3⟩ := run_byt rec w2
            have HB3 : Hid (Below w.heap.size w w3) := HB2.out.trans (hb3.mono HB2.out.size)
            have HR3 := Lib.hid hr3
            have hck : ∀ W, Below w3.heap.size w3 W → Calls Tryd.prog 33 #[.slice (some ⟨w2.heap.size, 0, none⟩) q c3] W (Made (M.le4 (M.crc (byt rec))) W) := by
              intro W hW
              have := check_any (some ⟨w2.heap.size, 0, none⟩) c3 (byt rec) W (HR3.out.up hW) (by rw [byt_length]; omega) ((ht.up HB3.out).up hW)
              rwa [byt_length, hrecs] at this
            rw [hrecs] at hcv3 hc3
            have HRS2 := Lib.hid hrecs
            clear hr3 hb3 hrecs
            obtain ⟨K4, hK4⟩ : ∃ K4, M.le4 (M.crc (byt rec)) = K4 := ⟨_, rfl⟩
            have hK4l : ∀ x ∈ K4, x < 256 := by rw [← hK4]; exact M.le4_lt _
            rw [hK4] at hck
            have HCK := Lib.hid hck
            have hcmp : ((strB K4).toList == t4.toList) = decide (((byt r).drop q).take 4 = M.le4 (M.crc ((byt r).take q))) := by
              rw [toList_same, byt_strB K4 hK4l, HT4.out, ← hK4, HREC.out]
              exact decide_eq_decide.2 ⟨Eq.symm, Eq.symm⟩
            have hw4 : IntKind.i64.wrap ((q : Int) + 4) = ((q + 4 : Nat) : Int) := by rw [IntWalk.i64_in _ (by omega)]; rfl
            have hsl : ∀ W, (Instr.slice 9 (.string r) (some (.int .i64 (q : Int))) (some (.int .i64 ((q : Int) + 4))) none).run Tryd.prog W = .ok (.string t4) W := by
              intro W
              have := run_slice_string (P := Tryd.prog) W 9 r .i64 .i64 (q : Int) ((q : Int) + 4) Tryd.underlying9 (by omega) (by omega) (by omega)
              rw [this, ← ht4]
              rfl
            clear hck hK4 hcv hnum hf1 hf2 ht4
            by_cases hX : ((byt r).drop q).take 4 = M.le4 (M.crc ((byt r).take q))
            · have HO : Hid (M.openV (byt s) a m = .ok ((byt r)[0]?.getD 0, ((byt r).drop p).take n, a + (q + 4))) := by show _ = _; rw [HOV.out, if_pos hX]
              rw [decide_eq_true hX] at hcmp
              clear hX
              go_wp2
              go_region_with (go_at_call 33; refine (HCK.out _ (by first | exact Below.refl _ _ | exact (Below.refl _ _).drew)).mono ?_; rintro e w4 ⟨A4, c4, rfl, hr4, hb4⟩; have hst4 := run_str A4 c4 K4 w4 _ hr4)
              have hb34 : Below w3.heap.size w3 w4 := (Below.refl w3.heap.size w3).drew.trans hb4
              have HB4 : Hid (Below w.heap.size w w4) := HB3.out.trans (hb34.mono HB3.out.size)
              have hr5 := HR3.out.up hb34
              have hq0 : 0 < q := by omega
              have hc0 := hr5.cellAt 0 (by rw [byt_length, HRS2.out]; exact hq0)
              have hx0 : (byt rec)[0]?.getD 0 = (byt r)[0]?.getD 0 := by rw [HREC.out, List.getElem?_take, if_pos hq0]
              rw [hx0] at hc0
              obtain ⟨x0, hx0e⟩ : ∃ x, (byt r)[0]?.getD 0 = x := ⟨_, rfl⟩
              rw [hx0e] at hc0
              have HX0 := Lib.hid hx0e
              have hbody : ((byt rec).drop p).take n = ((byt r).drop p).take n := by
                rw [HREC.out, List.drop_take, List.take_take, Nat.min_eq_left (by have := HQ.out; omega)]
              have hlenb : (((byt r).drop p).take n).length = n := by rw [List.length_take, List.length_drop, byt_length]; have := HQ.out; omega
              have hst : ∀ k c, (convert 22 9 (.slice (some ⟨w2.heap.size, p, none⟩) n c)).run Tryd.prog (w4.drewN k) = .ok (.string (strB (((byt r).drop p).take n))) (w4.drewN k) := by
                intro k c
                have h2 := ((hr5.up (below_drewN (Below.refl w4.heap.size w4) k)).sub p n)
                rw [hbody] at h2
                have := run_str _ c _ (w4.drewN k) _ h2
                rwa [hlenb, Nat.zero_add] at this
              have hemp : ∀ W a, (convert 22 9 (.slice a 0 0)).run Tryd.prog W = .ok (.string (strB [])) W := fun W a => run_str a 0 [] W 0 (Row.none_ _ _ _)
              obtain ⟨S, hS⟩ : ∃ S, strB (((byt r).drop p).take n) = S := ⟨_, rfl⟩
              rw [hS] at hst
              have HS := Lib.hid hS
              have e1 : q - p = n := by have := HQ.out; omega
              have hwq : IntKind.i64.wrap ((a : Int) + (q : Int)) = (a : Int) + (q : Int) := IntWalk.i64_in _ (by omega)
              have hwq4 : IntKind.i64.wrap ((a : Int) + (q : Int) + 4) = (a : Int) + (q : Int) + 4 := IntWalk.i64_in _ (by omega)
              have hq0' : (0 : Int) < (q : Int) := by omega
              have hqc : (q : Int) ≤ (c3 : Int) := by omega
              have hpq' : (p : Int) ≤ (q : Int) := by omega
              clear hb4 hb34 hr4 hr5 hx0 hx0e hbody hlenb hst4
              go_wp2
              by_cases hpc : p < c3
              · have hpc2 : ¬ c3 = p := by omega
                clear hS hemp
                go_quiet (fail)
                go_wp2
                (try simp only [Exit.inBlock, Exit.then]); refine bodyPost_ret (results_tmp4 rfl _ _ _) rfl ?_
                rw [HO.out]
                exact ⟨by rw [← HS.out, ← HX0.out]; simp [opnR]; omega, below_drewN HB4.out _⟩
              · have hpq : p = q := by omega
                have hn0 : n = 0 := by have := HQ.out; omega
                have hpc2 : c3 = p := by omega
                subst hn0
                have hS0 : strB [] = S := by rw [← hS]; simp
                rw [hS0] at hemp
                clear hS hS0
                go_quiet (fail)
                go_wp2
                (try simp only [Exit.inBlock, Exit.then]); refine bodyPost_ret (results_tmp4 rfl _ _ _) rfl ?_
                rw [HO.out]
                exact ⟨by rw [← HS.out, ← HX0.out]; simp [opnR]; omega, below_drewN HB4.out _⟩
            · have HO : Hid (M.openV (byt s) a m = .error 21) := by show _ = _; rw [HOV.out, if_neg hX]
              rw [decide_eq_false hX] at hcmp
              clear hX
              go_wp2
              go_region_with (go_at_call 33; refine (HCK.out _ (by first | exact Below.refl _ _ | exact (Below.refl _ _).drew)).mono ?_; rintro e w4 ⟨A4, c4, rfl, hr4, hb4⟩; have hst4 := run_str A4 c4 K4 w4 _ hr4)
              all_goals have HB4 : Hid (Below w.heap.size w w4) := HB3.out.trans (((Below.refl w3.heap.size w3).drew.trans hb4).mono HB3.out.size)
              all_goals clear hb4 hr4
              all_goals go_wp2
              all_goals ((try simp only [Exit.inBlock, Exit.then]); refine bodyPost_ret (results_tmp4 rfl _ _ _) rfl ?_)
              all_goals rw [HO.out]
              all_goals exact ⟨rfl, HB4.out⟩
          · have HT : Hid (M.openV (byt s) a m = .error 20) := by show _ = _; rw [HV.out, ← HRB.out]; unfold M.openR; rw [hT]; dsimp only; rw [if_neg fun h => hB (by have := h.2; rwa [byt_length] at this)]
            have hB' : decide ((n : Int) ≤ (r.size : Int) - (p : Int) - 4) = false := decide_eq_false (by omega)
            rw [hB'] at hf2
            clear hA hB hA' hB' hT
            obtain ⟨V, hV⟩ : ∃ V : Int, (n : Int) = V := ⟨_, rfl⟩
            rw [hV] at hnum hf1 hf2
            clear hV hn64
            go_enter Tryd.func22, Tryd.ntmps22
            go_wp2_with fail
            refine hnum.mono ?_
            rintro e w2 ⟨rfl, hb2⟩
            have HB2 : Hid (Below w.heap.size w w2) := HB1.out.trans (hb2.mono HB1.out.size)
            clear hb2
            go_wp2_with fail
            refine (hf1 _).mono ?_
            rintro e w3 ⟨rfl, rfl⟩
            go_wp2_with fail
            refine (hf2 _).mono ?_
            rintro e w3 ⟨rfl, rfl⟩
            go_wp2
            (try simp only [Exit.inBlock, Exit.then]); refine bodyPost_ret (results_tmp4 rfl _ _ _) rfl ?_
            rw [HT.out]
            exact ⟨rfl, HB2.out⟩
        · have HT : Hid (M.openV (byt s) a m = .error 20) := by show _ = _; rw [HV.out, ← HRB.out]; unfold M.openR; rw [hT]; dsimp only; rw [if_neg fun h => hA h.1]
          have hA' : decide ((n : Int) ≤ m) = false := decide_eq_false hA
          rw [hA'] at hf1
          clear hA hA' hT hf2
          obtain ⟨V, hV⟩ : ∃ V : Int, (n : Int) = V := ⟨_, rfl⟩
          rw [hV] at hnum hf1
          clear hV hn64
          go_enter Tryd.func22, Tryd.ntmps22
          go_wp2_with fail
          refine hnum.mono ?_
          rintro e w2 ⟨rfl, hb2⟩
          have HB2 : Hid (Below w.heap.size w w2) := HB1.out.trans (hb2.mono HB1.out.size)
          clear hb2
          go_wp2_with fail
          refine (hf1 _).mono ?_
          rintro e w3 ⟨rfl, rfl⟩
          go_wp2
          (try simp only [Exit.inBlock, Exit.then]); refine bodyPost_ret (results_tmp4 rfl _ _ _) rfl ?_
          rw [HT.out]
          exact ⟨rfl, HB2.out⟩
end Go.Proofs.YthnffebjjnbakaaDoor
