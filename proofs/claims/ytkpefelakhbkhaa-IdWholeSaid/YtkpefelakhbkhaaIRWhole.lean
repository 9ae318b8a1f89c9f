/-
  The reference's Whole.
-/
import Derived.Test.YtkpefelakhbkhaaIWhole
namespace Go.Proofs.Ytkpefelakhbkhaa.I
open Go.RowKit

theorem ranges_total : ∀ (t : Tr) (k a : Nat), t.depth ≤ k → ((ranges t a (2 ^ k)).map fun r => r.2 - r.1).sum = t.meas k
  | .leaf o, k, a, _ => by cases o <;> simp [ranges, Tr.meas]
  | .node _ _, 0, _, h => by simp [Tr.depth] at h
  | .node l r, k + 1, a, h => by
    simp only [Tr.depth] at h
    have e2 : 2 ^ (k + 1) / 2 = 2 ^ k := by rw [Nat.pow_succ]; omega
    simp only [ranges, e2, List.map_append, List.sum_append, Tr.meas]
    rw [ranges_total l k a (by omega), ranges_total r k (a + 2 ^ k) (by omega)]
theorem apartL_one : ∀ (L : List Tr) (t : Tr), apartL (L ++ [t]) ↔ apartL L ∧ ∀ s ∈ L, bothT s t = false
  | [], t => by simp [apartL]
  | s :: L, t => by
    rw [List.cons_append, apartL, apartL, apartL_one L t]
    constructor
    · rintro ⟨h1, h2, h3⟩
      refine ⟨⟨fun x hx => h1 x (List.mem_append_left _ hx), h2⟩, fun x hx => ?_⟩
      rcases List.mem_cons.1 hx with rfl | hx
      · exact h1 t (List.mem_append_right _ (List.mem_singleton.2 rfl))
      · exact h3 x hx
    · rintro ⟨⟨h1, h2⟩, h3⟩
      refine ⟨fun x hx => ?_, h2, fun x hx => h3 x (List.mem_cons_of_mem _ hx)⟩
      rcases List.mem_append.1 hx with hx | hx
      · exact h1 x hx
      · rw [List.mem_singleton.1 hx]; exact h3 s List.mem_cons_self
theorem total_one (L : List Tr) (t : Tr) : total (L ++ [t]) = total L + t.meas 32 := by simp [total]
/-- The first j trees: right, and apart. -/
def Pre (Ts : List (Option Tr)) (j : Nat) (S : Nat) : Prop := ∃ ts : List Tr, Ts.take j = ts.map some ∧ apartL ts ∧ total ts = S
theorem Pre.le {Ts : List (Option Tr)} {j S : Nat} (h : Pre Ts j S) : S ≤ j * 4294967296 := by
  obtain ⟨ts, h1, _, h3⟩ := h
  have hl : ts.length ≤ j := by
    have := congrArg List.length h1
    rw [List.length_map, List.length_take] at this; omega
  have : ∀ L : List Tr, total L ≤ L.length * 4294967296 := fun L => by
    induction L with
    | nil => simp [total]
    | cons t L ih =>
      have := t.meas_le 32
      have e : total (t :: L) = t.meas 32 + total L := by simp [total]
      have e3 : (2 : Nat) ^ 32 = 4294967296 := rfl
      rw [e, List.length_cons]; omega
  have h4 := this ts
  rw [h3] at h4
  exact Nat.le_trans h4 (Nat.mul_le_mul_right _ hl)
/-- The next tree, apart from all ahead of it. -/
theorem Pre.next {Ts : List (Option Tr)} {j S : Nat} (h : Pre Ts j S) {t : Tr} (hj : Ts[j]? = some (some t)) (ha : ∀ k s, k < j → Ts[k]? = some (some s) → bothT t s = false) : Pre Ts (j + 1) (S + t.meas 32) := by
  obtain ⟨ts, h1, h2, h3⟩ := h
  obtain ⟨hlt, hje⟩ := List.getElem?_eq_some_iff.1 hj
  refine ⟨ts ++ [t], by rw [List.take_succ_eq_append_getElem hlt, hje, h1]; simp, (apartL_one ts t).2 ⟨h2, fun s hs => ?_⟩, by rw [total_one, h3]⟩
  rw [both_comm]
  obtain ⟨k, hk⟩ := List.mem_iff_getElem?.1 hs
  have hkj : (Ts.take j)[k]? = some (some s) := by rw [h1, List.getElem?_map, hk]; rfl
  rw [List.getElem?_take] at hkj
  split at hkj
  · rename_i hlt2; exact ha k s hlt2 hkj
  · cases hkj
/-- Two that meet. -/
theorem not_whole {Ts : List (Option Tr)} {j k : Nat} {t s : Tr} (hk : k < j) (hj : Ts[j]? = some (some t)) (hs : Ts[k]? = some (some s)) (hb : bothT t s = true) : ¬ WholeP Ts := by
  rintro ⟨_, ts, rfl, h⟩
  have ha := (apart_iff ts).2 fun f => by rw [h f]; exact Nat.le_refl _
  have h1 : ts[j]? = some t := by
    rw [List.getElem?_map] at hj
    cases e : ts[j]? with
    | none => rw [e] at hj; cases hj
    | some x => rw [e] at hj; simp at hj; rw [hj]
  have h2 : ts[k]? = some s := by
    rw [List.getElem?_map] at hs
    cases e : ts[k]? with
    | none => rw [e] at hs; cases hs
    | some x => rw [e] at hs; simp at hs; rw [hs]
  have key : ∀ (L : List Tr) (k j : Nat) (s t : Tr), k < j → L[k]? = some s → L[j]? = some t → apartL L → bothT s t = false := by
    intro L
    induction L with
    | nil => intro k j s t _ h; simp at h
    | cons x L ih =>
      intro k j s t hkj h1 h2 ha
      cases j with
      | zero => omega
      | succ j =>
        rw [List.getElem?_cons_succ] at h2
        cases k with
        | zero =>
          simp at h1; subst h1
          exact ha.1 t (List.mem_iff_getElem?.2 ⟨j, h2⟩)
        | succ k =>
          rw [List.getElem?_cons_succ] at h1
          exact ih k j s t (by omega) h1 h2 ha.2
  have := key ts k j s t hk h2 h1 ha
  rw [both_comm, this] at hb; cases hb

set_option maxRecDepth 100000 in
set_option maxHeartbeats 6400000 in
theorem rwhole_any (A : Option Addr) (c : Nat) (l : List El) (Ts : List (Option Tr)) (w : World) (hr : RowE w w.heap.size A l) (ha : ArgL w l Ts) (hbig : l.length ≤ 140737488351232) :
    Calls Try.prog 27 #[.slice A l.length c] w fun e w' => ∃ b, e = .returned (.bool b) ∧ (b = true ↔ WholeP Ts) ∧ Below w.heap.size w w' := by
  by_cases h64 : 64 < l.length
  · have HF : Hid (¬ WholeP Ts) := fun h => by have := h.1; rw [← ha.1] at this; omega
    clear hr ha
    go_enter Try.func27, Try.ntmps27
    go_wp2
    go_ret
    exact ⟨false, rfl, no_iff HF.out, Below.refl _ _⟩
  · have HR := Lib.hid hr
    have HA := Lib.hid ha
    clear hr ha
    go_enter Try.func27, Try.ntmps27
    go_wp2
    go_loopg [3, 4] l.length (fun k s i wr => ∃ (j S : Nat), j ≤ l.length ∧ k = l.length - j ∧ s = .int .u64 (S : Int) ∧ i = .int .i64 j ∧ Hid (Pre Ts j S) ∧ Hid (Below w.heap.size w wr))
    case atStart => exact ⟨0, 0, by omega, by omega, rfl, rfl, ⟨[], by simp, trivial, rfl⟩, Below.refl _ _⟩
    case round =>
      obtain ⟨j, S, hj, hgk, rfl, rfl, hinv, hB⟩ := hrel
      have HGK := Lib.hid hgk; clear hgk
      by_cases hlt : j < l.length
      · have hlt2 : j < Ts.length := by rw [← HA.out.1]; exact hlt
        obtain ⟨b, off, hAeq, hb, g0, g1⟩ := HR.out.at j hlt
        have HIN := Lib.hid ((HA.out.up hB.out).2 j _ _ (List.getElem?_eq_getElem hlt) (List.getElem?_eq_getElem hlt2))
        have HN : Hid (Ts[j].isSome = false → ¬ WholeP Ts) := fun h hw => by
          obtain ⟨ts, e, _⟩ := hw.2
          have hm : Ts[j] ∈ Ts := List.getElem_mem hlt2
          obtain ⟨T, hT⟩ : ∃ T, Ts[j] = T := ⟨_, rfl⟩
          rw [hT] at hm h
          rw [e] at hm
          obtain ⟨t, _, ht⟩ := List.mem_map.1 hm
          rw [← ht] at h; cases h
        have HTJ := Lib.hid (List.getElem?_eq_getElem hlt2)
        obtain ⟨T, ht⟩ : ∃ T, Ts[j] = T := ⟨_, rfl⟩
        obtain ⟨e, he⟩ : ∃ e, l[j] = e := ⟨_, rfl⟩
        rw [ht] at HIN HN HTJ
        rw [he] at HIN g0 g1
        obtain ⟨o, A1, n1, c1⟩ := e
        simp only at g0 g1
        unfold El.v at HIN
        simp only at HIN
        subst hAeq
        have HCF : Hid (∀ W, Below w.heap.size w W → W.cell? ⟨b, off + j * 2, none⟩ = some (.bool o) ∧ W.cell? ⟨b, off + j * 2 + 1, none⟩ = some (.slice A1 n1 c1)) := fun W hW => ⟨(hW.cell hb).trans g0, (hW.cell hb).trans g1⟩
        obtain ⟨f0, f1⟩ := HCF.out wr hB.out
        clear g0 g1
        have hc := rright_arg (HIN.out)
        unfold tv at hc
        have HS := Lib.hid hinv.out.le
        clear ht he
        go_wp2_with fail
        refine hc.mono ?_
        rintro e w2 ⟨rfl, hb2⟩
        have HB2 : Hid (Below w.heap.size w w2) := hB.out.trans (hb2.mono hB.out.size)
        have HIN2 := Lib.hid (HIN.out.up hb2)
        clear hb2 hc f0 f1 HIN hB
        cases T with
        | none =>
          have HF := Lib.hid (HN.out rfl)
          clear HN hinv HIN2 HTJ
          simp only [Option.isSome_none]
          go_wp2
          go_ret
          exact ⟨false, rfl, no_iff HF.out, HB2.out⟩
        | some t =>
          simp only [Option.isSome_some]
          obtain ⟨hin2, hd, hnn⟩ := HIN2.out.inT
          obtain ⟨f0, f1⟩ := HCF.out w2 HB2.out
          have hc := means_any t _ w2 hd hnn hin2
          unfold tv at hc
          have hlen : (ranges t 0 4294967296).length ≤ 2047 := Nat.le_trans (ranges_len t 32 0) hnn
          have hv1 : ∀ r ∈ ranges t 0 4294967296, r.1 ≤ r.2 ∧ r.2 ≤ 4294967296 := fun r hr => by
            have h1 := ranges_in t 32 0 hd r hr
            have h2 := ranges_up t _ _ r hr
            have e3 : (2 : Nat) ^ 32 = 4294967296 := rfl
            omega
          have HTOT : Hid (((ranges t 0 4294967296).map fun r => r.2 - r.1).sum = t.meas 32) := ranges_total t 32 0 hd
          have hml := t.meas_le 32
          have HBOTH : Hid (∀ s : Tr, s.depth ≤ 32 → meetL (ranges t 0 4294967296) (ranges s 0 4294967296) = bothT t s) := fun s hs => meet_both t s 32 0 hd hs
          obtain ⟨R, hRe⟩ : ∃ R, ranges t 0 4294967296 = R := ⟨_, rfl⟩
          obtain ⟨M, hM⟩ : ∃ M, t.meas 32 = M := ⟨_, rfl⟩
          have hml2 : M ≤ 4294967296 := by rw [← hM]; exact hml
          rw [hRe] at hc hlen hv1 HTOT HBOTH
          rw [hM] at HTOT
          have HM := Lib.hid hM
          have HV1 := Lib.hid hv1
          have hS := HS.out
          have hS3 : S ≤ 300000000000 := by omega
          clear hin2 hRe hM hml HN HIN2 hv1 hd hnn hS
          go_wp2_with fail
          refine hc.mono ?_
          rintro e w3 ⟨Am, cm, rfl, hg3, hb3, _⟩
          have HB3 : Hid (Below w.heap.size w w3) := HB2.out.trans (hb3.mono HB2.out.size)
          have HROW := Lib.hid hg3.row
          clear hc hg3 hb3 f0 f1 HB2
          go_wp2
          go_loopg [3, 7] R.length (fun q o i wr2 => ∃ (i2 s : Nat), i2 ≤ R.length ∧ q = R.length - i2 ∧ o = .int .u64 (s : Int) ∧ i = .int .i64 i2 ∧ Hid (s = S + ((R.take i2).map fun r => r.2 - r.1).sum) ∧ Hid (Below w3.heap.size w3 wr2))
          case atStart => exact ⟨0, S, by omega, by omega, rfl, rfl, by show _ = _; simp, Below.refl _ _⟩
          case round =>
            obtain ⟨i2, s, hi2, hgk2, rfl, rfl, hs, hBr⟩ := hrel
            have HGK2 := Lib.hid hgk2; clear hgk2
            by_cases hlt3 : i2 < R.length
            · obtain ⟨b3, off3, rfl, hb3, F1⟩ := HROW.out.at i2 hlt3
              obtain ⟨hv1, hv2⟩ := HV1.out _ (List.getElem_mem hlt3)
              have hnext := sum_take R i2 hlt3
              have hle := sum_take_le R (i2 + 1)
              rw [HTOT.out] at hle
              obtain ⟨f0, f1⟩ := F1.out _ hBr.out
              obtain ⟨x, hx⟩ : ∃ x, (R[i2]'hlt3).1 = x := ⟨_, rfl⟩
              obtain ⟨y, hy⟩ : ∃ y, (R[i2]'hlt3).2 = y := ⟨_, rfl⟩
              simp only [hx, hy] at f0 f1 hv1 hv2 hnext
              have HNX : Hid (s + (y - x) = S + ((R.take (i2 + 1)).map fun r => r.2 - r.1).sum) := by show _ = _; rw [hnext, hs.out]; omega
              have hbound : s ≤ 1000000000000 := by have := HNX.out; omega
              have hw1 : IntKind.u64.wrap ((s : Int) + (y : Int)) = (s : Int) + (y : Int) := by rw [IntKind.wrap_u64]; omega
              have hw2 : IntKind.u64.wrap ((s : Int) + (y : Int) - (x : Int)) = ((s + (y - x) : Nat) : Int) := by rw [IntKind.wrap_u64]; omega
              obtain ⟨s2, hs2⟩ : ∃ s2, s + (y - x) = s2 := ⟨_, rfl⟩
              rw [hs2] at hw2 HNX
              clear hnext hle hx hy F1 hs2
              go_wp2
              go_quiet (fail)
              have HB5 : Hid (Below w3.heap.size w3 (wr.drewN nq)) := below_drewN hBr.out nq
              generalize wr.drewN nq = w5 at *
              go_wp2
              go_roundg (R.length - (i2 + 1))
              case measure => have := HGK2.out; omega
              case rel => exact ⟨i2 + 1, s2, by omega, rfl, rfl, by go_num, HNX, HB5⟩
            · obtain rfl : i2 = R.length := by omega
              have hsS : s = S + M := by have := hs.out; rw [List.take_length, HTOT.out] at this; exact this
              have HSM := Lib.hid hsS
              have HB4 : Hid (Below w.heap.size w wr) := HB3.out.trans (hBr.out.mono HB3.out.size)
              have HROW4 := Lib.hid (HROW.out.up hBr.out)
              have hS4 : s ≤ 400000000000 := by omega
              clear hs hsS HROW HB3 HTOT HGK2 hBr
              obtain ⟨w4, hw4⟩ : ∃ w4, wr = w4 := ⟨_, rfl⟩
              rw [hw4] at HB4 HROW4 ⊢
              clear hw4
              go_wp2
              go_loopg [8] j (fun q i wr3 => ∃ (k2 : Nat), k2 ≤ j ∧ q = j - k2 ∧ i = .int .i64 k2 ∧ Hid (∀ k s, k < k2 → Ts[k]? = some (some s) → bothT t s = false) ∧ Hid (Below w4.heap.size w4 wr3))
              case atStart => exact ⟨0, by omega, by omega, rfl, fun k s h => by omega, Below.refl _ _⟩
              case round =>
                obtain ⟨k2, hk2, hgk3, rfl, hap, hBr⟩ := hrel
                have HGK3 := Lib.hid hgk3; clear hgk3
                have HB5 : Hid (Below w.heap.size w wr) := HB4.out.trans (hBr.out.mono HB4.out.size)
                by_cases hlt4 : k2 < j
                · have hlk : k2 < l.length := by omega
                  have hlk2 : k2 < Ts.length := by omega
                  obtain ⟨u, hu⟩ : ∃ u : Tr, Ts[k2] = some u := by
                    obtain ⟨ts, e, _⟩ := hinv.out
                    have h1 : (Ts.take j)[k2]? = some Ts[k2] := by rw [List.getElem?_take, if_pos hlt4]; exact List.getElem?_eq_getElem hlk2
                    rw [e, List.getElem?_map] at h1
                    cases e2 : ts[k2]? with
                    | none => rw [e2] at h1; cases h1
                    | some x => rw [e2] at h1; simp at h1; exact ⟨x, h1.symm⟩
                  obtain ⟨b6, off6, he6, hb6, g0, g1⟩ := (HR.out.up HB5.out).at k2 hlk
                  injection he6 with he6
                  injection he6 with e6 e7
                  subst e6; subst e7
                  have HINu := Lib.hid ((HA.out.up HB5.out).2 k2 _ _ (List.getElem?_eq_getElem hlk) (List.getElem?_eq_getElem hlk2))
                  have HTK := Lib.hid (List.getElem?_eq_getElem hlk2)
                  rw [hu] at HINu HTK
                  obtain ⟨e, he⟩ : ∃ e, l[k2] = e := ⟨_, rfl⟩
                  rw [he] at HINu g0 g1
                  obtain ⟨o6, A6, n6, c6⟩ := e
                  simp only at g0 g1
                  unfold El.v at HINu
                  simp only at HINu
                  obtain ⟨hin6, hd6, hnn6⟩ := HINu.out.inT
                  have hc := means_any u _ wr hd6 hnn6 hin6
                  unfold tv at hc
                  have hlen6 : (ranges u 0 4294967296).length ≤ 2047 := Nat.le_trans (ranges_len u 32 0) hnn6
                  have hv6 : ∀ r ∈ ranges u 0 4294967296, r.1 ≤ 1000000000000 ∧ r.2 ≤ 1000000000000 := fun r hr => by
                    have h1 := ranges_in u 32 0 hd6 r hr
                    have h2 := ranges_up u _ _ r hr
                    have e3 : (2 : Nat) ^ 32 = 4294967296 := rfl
                    omega
                  have HMB := Lib.hid (HBOTH.out u hd6)
                  obtain ⟨R6, hR6⟩ : ∃ R6, ranges u 0 4294967296 = R6 := ⟨_, rfl⟩
                  rw [hR6] at hc hlen6 hv6 HMB
                  have HV6 := Lib.hid hv6
                  have HNW : Hid (bothT t u = true → ¬ WholeP Ts) := fun h => not_whole hlt4 HTJ.out HTK.out h
                  have HAP : Hid (bothT t u = false → ∀ k s, k < k2 + 1 → Ts[k]? = some (some s) → bothT t s = false) := fun h k s hk hs => by
                    rcases Nat.lt_or_ge k k2 with h1 | h1
                    · exact hap.out k s h1 hs
                    · obtain rfl : k = k2 := by omega
                      rw [HTK.out] at hs; injection hs with hs; injection hs with hs
                      rw [← hs]; exact h
                  have HROW5 := Lib.hid (HROW4.out.up hBr.out)
                  clear hin6 hR6 hv6 hd6 hnn6 hap hu he HINu HTK
                  go_wp2_with fail
                  refine hc.mono ?_
                  rintro e w6 ⟨A7, c7, rfl, hg6, hb6', _⟩
                  have hcm := meet_any Am cm R A7 c7 R6 w6 (HROW5.out.up hb6') (by omega) (fun r hr => by have := HV1.out r hr; omega) hg6.row (by omega) HV6.out
                  rw [HMB.out] at hcm
                  have HB6 : Hid (Below w4.heap.size w4 w6) := hBr.out.trans (hb6'.mono hBr.out.size)
                  have HB6w : Hid (Below w.heap.size w w6) := HB5.out.trans (hb6'.mono HB5.out.size)
                  clear hc hg6 hb6' g0 g1 HROW5 HV6 HMB hBr HB5
                  go_wp2_with fail
                  refine hcm.mono ?_
                  rintro e w7 ⟨rfl, hb7⟩
                  have HB7 : Hid (Below w4.heap.size w4 w7) := HB6.out.trans (hb7.mono HB6.out.size)
                  have HB7w : Hid (Below w.heap.size w w7) := HB6w.out.trans (hb7.mono HB6w.out.size)
                  clear hcm hb7 HB6 HB6w
                  cases hbo : bothT t u with
                  | true =>
                    have HF := Lib.hid (HNW.out hbo)
                    clear hbo HNW HAP
                    go_wp2
                    go_ret
                    exact ⟨false, rfl, no_iff HF.out, HB7w.out⟩
                  | false =>
                    have HAA := Lib.hid (HAP.out hbo)
                    clear hbo HNW HAP
                    go_wp2
                    go_roundg (j - (k2 + 1))
                    case measure => have := HGK3.out; omega
                    case rel => exact ⟨k2 + 1, by omega, rfl, by go_num, HAA, HB7⟩
                · obtain rfl : k2 = j := by omega
                  have HNEXT : Hid (Pre Ts (k2 + 1) s) := by
                    show Pre Ts (k2 + 1) s
                    rw [HSM.out, ← HM.out]
                    exact hinv.out.next HTJ.out fun k s hk hs => hap.out k s hk hs
                  clear hap
                  go_wp2
                  go_roundg (l.length - (k2 + 1))
                  case measure => have := HGK.out; omega
                  case rel => exact ⟨k2 + 1, s, by omega, rfl, rfl, by go_num, HNEXT, HB5⟩
      · obtain rfl : j = l.length := by omega
        have hpre := hinv.out
        obtain ⟨ts, h1, h2, h3⟩ := hpre
        rw [List.take_of_length_le (by rw [HA.out.1]; exact Nat.le_refl _)] at h1
        subst h1
        obtain ⟨_, hsm⟩ := HA.out.inL
        have hw := whole_iff ts fun t ht => (hsm t ht).1
        have HF : Hid (((S : Int) == 4294967296) = true ↔ WholeP (ts.map some)) := by
          show _ ↔ _
          rw [beq_iff_eq]
          constructor
          · intro h
            exact ⟨by rw [← HA.out.1]; omega, ts, rfl, hw.1 ⟨h2, by rw [h3]; have e3 : (2 : Nat) ^ 32 = 4294967296 := rfl; omega⟩⟩
          · rintro ⟨_, us, e, h⟩
            have : ts = us := map_some e
            subst this
            have := (hw.2 h).2
            rw [h3] at this
            have e3 : (2 : Nat) ^ 32 = 4294967296 := rfl
            omega
        clear hw hsm h2 h3 hinv
        go_wp2
        go_ret
        exact ⟨_, rfl, HF.out, hB.out⟩
end Go.Proofs.Ytkpefelakhbkhaa.I
