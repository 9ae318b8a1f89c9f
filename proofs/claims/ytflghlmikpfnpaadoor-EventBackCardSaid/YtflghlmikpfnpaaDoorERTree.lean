/-
  The reference's tree, Norm, Ends.
-/
import Derived.Test.YtflghlmikpfnpaaDoorEAhead
import Derived.Test.YtflghlmikpfnpaaDoorESmall
namespace Go.Proofs.YtflghlmikpfnpaaDoor.E
open Go.RowKit

/-- What the document's tree is put together from. -/
structure Cut (l : List St) (k a : Nat) (own : List St) (c0 : St) : Prop where
  seg : Seg a own (a + 2 ^ k)
  cn : ∀ p, a ≤ p → p < a + 2 ^ k → cnt own p = cnt l p
  hd : own[0]? = some c0
  mn : minL own c0.2 = Tr.lo (cnt l) k a
  mx : maxL own c0.2 = Tr.hi (cnt l) k a
theorem cut_of {l : List St} {k a e : Nat} (h : Sea 0 l e) (he : a + 2 ^ k ≤ e) : ∃ c0, Cut l k a (withW 0 l a (2 ^ k)) c0 := by
  obtain ⟨h1, h2⟩ := withW_seg l 0 a (2 ^ k) e h he (Nat.zero_le _)
  rw [Nat.zero_max] at h1 h2
  have hp := Nat.two_pow_pos k
  cases hc : withW 0 l a (2 ^ k) with
  | nil => rw [hc] at h1; have : a = a + 2 ^ k := h1; omega
  | cons c0 r =>
    rw [hc] at h1 h2
    have h0 : (c0 :: r)[0]? = some c0 := rfl
    obtain ⟨e1, e2⟩ := seg_ends h1 h0
    obtain ⟨e3, e4⟩ := lo_congr k a h2
    exact ⟨c0, h1, h2, h0, by rw [e1, e3], by rw [e2, e4]⟩
theorem cnt_in {l : List St} {e p : Nat} (h : Sea 0 l e) (hi : InB l) (hp : p < e) : 0 ≤ cnt l p ∧ cnt l p ≤ 4611686018427387904 := by
  obtain ⟨x, hx, e⟩ := cnt_mem h hp (Nat.zero_le _)
  rw [e]; exact hi x hx
/-- What a call of tree asks. -/
structure TA (w : World) (k : Nat) (A : Option Addr) (l : List St) (a n e : Nat) : Prop where
  hn : n = 2 ^ k
  ha : a + n ≤ 1000000000000
  hr : RowR w w.heap.size A l
  hl : l.length + k ≤ 1000000
  hs : Sea 0 l e
  he : a + n ≤ e
  hv : ∀ r ∈ l, r.1 ≤ 1000000000000
  hi : InB l

set_option maxRecDepth 100000 in
set_option maxHeartbeats 3200000 in
theorem tree_any (k : Nat) : ∀ (A : Option Addr) (c : Nat) (l : List St) (a n e : Nat) (less : Int) (w : World), TA w k A l a n e → 0 ≤ less → less ≤ 4611686018427387904 →
    Calls Tryd.prog 36 #[.slice A l.length c, .int .u64 (a : Int), .int .u64 (n : Int), .int .i64 less] w (Trees ((Tr.bld (cnt l) k a).add (-less)) w) := by
  induction k using Nat.strongRecOn with
  | _ k ih =>
  intro A c l a n e less w hT hl0 hl1
  obtain ⟨c0, hcut⟩ := cut_of hT.hs (k := k) (a := a) (by have := hT.he; have := hT.hn; omega)
  rw [← hT.hn] at hcut
  have hlen := withW_len l 0 a n
  have hval : ∀ r ∈ withW 0 l a n, r.1 ≤ 1000000000000 := fun r hr => by have := (withW_mem l 0 a n r hr).1; have := hT.ha; omega
  have hinb := withW_in hT.hi 0 a n
  have hb0 : Below w.heap.size w (w.alloc (.cells #[.int .i64 0, .slice none 0 0] 24)) := (Below.refl _ w).alloc (Nat.le_refl _) _
  have hw := within_any A c l a n (w.alloc (.cells #[.int .i64 0, .slice none 0 0] 24)) (hT.hr.up hb0) (by have := hT.hl; omega) hT.hv hT.ha
  have hlo := lo_in (h := cnt l) k a (m := 0) (M := 4611686018427387904) fun p h1 h2 => cnt_in hT.hs hT.hi (by have := hT.he; have := hT.hn; omega)
  have hlh := Tr.lo_le_hi (cnt l) k a
  obtain ⟨own, hown⟩ : ∃ own, withW 0 l a n = own := ⟨_, rfl⟩
  rw [hown] at hcut hlen hval hinb hw
  have HBL := Lib.hid (Tr.bld_leaf (cnt l) k a)
  have HST : Hid (∀ j, k = j + 1 → Tr.bld (cnt l) k a = if Tr.hi (cnt l) k a = Tr.lo (cnt l) k a then .leaf (Tr.lo (cnt l) k a) else .node (Tr.lo (cnt l) k a) ((Tr.bld (cnt l) j a).add (-(Tr.lo (cnt l) k a))) ((Tr.bld (cnt l) j (a + 2 ^ j)).add (-(Tr.lo (cnt l) k a)))) := fun j hj => by subst hj; exact Tr.bld_step (cnt l) j a
  have HK0 : Hid (k = 0 → Tr.hi (cnt l) k a = Tr.lo (cnt l) k a) := fun h => by subst h; rfl
  have hmn := hcut.mn
  have hmx := hcut.mx
  obtain ⟨m, hm⟩ : ∃ m, Tr.lo (cnt l) k a = m := ⟨_, rfl⟩
  obtain ⟨M, hM⟩ : ∃ M, Tr.hi (cnt l) k a = M := ⟨_, rfl⟩
  rw [hm] at hmn hlo hlh HBL HST HK0
  rw [hM] at hmx hlo hlh HBL HST HK0
  have HLE : Hid (∀ W A3 c3, RowR W W.heap.size A3 own → Calls Tryd.prog 39 #[.slice A3 own.length c3] W fun e w' => e = .returned (.int .i64 m) ∧ W = w') := fun W A3 c3 hR => by rw [← hmn]; exact least_any A3 c3 own c0 W hR (by have := hT.hl; omega) hcut.hd
  have HGR : Hid (∀ W A3 c3, RowR W W.heap.size A3 own → Calls Tryd.prog 40 #[.slice A3 own.length c3] W fun e w' => e = .returned (.int .i64 M) ∧ W = w') := fun W A3 c3 hR => by rw [← hmx]; exact greatest_any A3 c3 own c0 W hR (by have := hT.hl; omega) hcut.hd
  have HAH : Hid (∀ W A3 c3, RowR W W.heap.size A3 own → Calls Tryd.prog 71 #[.slice A3 own.length c3, .int .u64 (a : Int)] W fun e w' => ∃ A' c', e = .returned (.slice A' (own.length + 1) c') ∧ GrR w' W.heap.size A' c' ((a, c0.2) :: own) ∧ Below W.heap.size W w') := fun W A3 c3 hR => ahead_any A3 c3 own c0 a W hR (by have := hT.hl; omega) hcut.hd
  have HIH : Hid (∀ j h, k = j + 1 → n = h * 2 → (∀ W A3 c3, RowR W W.heap.size A3 ((a, c0.2) :: own) → Calls Tryd.prog 36 #[.slice A3 (own.length + 1) c3, .int .u64 (a : Int), .int .u64 (h : Int), .int .i64 m] W (Trees ((Tr.bld (cnt l) j a).add (-m)) W)) ∧ (∀ W A3 c3, RowR W W.heap.size A3 ((a, c0.2) :: own) → Calls Tryd.prog 36 #[.slice A3 (own.length + 1) c3, .int .u64 ((a : Int) + (h : Int)), .int .u64 (h : Int), .int .i64 m] W (Trees ((Tr.bld (cnt l) j (a + 2 ^ j)).add (-m)) W))) := by
    intro j h hj hh
    have hp : h = 2 ^ j := by have := hT.hn; rw [hj, Nat.pow_succ] at this; omega
    have hSea : Sea 0 ((a, c0.2) :: own) (a + n) := ⟨Nat.zero_le _, by have := hcut.seg.sea; rwa [hT.hn]⟩
    have hcn : ∀ p, a ≤ p → p < a + n → cnt ((a, c0.2) :: own) p = cnt l p := fun p h1 h2 => by
      simp only [cnt]; rw [if_neg (by omega)]; exact hcut.cn p h1 (by rw [← hT.hn]; exact h2)
    have hv' : ∀ r ∈ (a, c0.2) :: own, r.1 ≤ 1000000000000 := fun r hr => by
      rcases List.mem_cons.1 hr with rfl | hr
      · have := hT.ha; simp only; omega
      · exact hval r hr
    have hi' : InB ((a, c0.2) :: own) := fun r hr => by
      rcases List.mem_cons.1 hr with rfl | hr
      · exact hinb c0 (List.mem_of_getElem? hcut.hd)
      · exact hinb r hr
    have e1 : Tr.bld (cnt ((a, c0.2) :: own)) j a = Tr.bld (cnt l) j a := Tr.bld_congr j a fun p h1 h2 => hcn p h1 (by omega)
    have e2 : Tr.bld (cnt ((a, c0.2) :: own)) j (a + 2 ^ j) = Tr.bld (cnt l) j (a + 2 ^ j) := Tr.bld_congr j (a + 2 ^ j) fun p h1 h2 => hcn p (by omega) (by omega)
    refine ⟨fun W A3 c3 hR => ?_, fun W A3 c3 hR => ?_⟩
    · rw [← e1]
      exact ih j (by omega) A3 c3 ((a, c0.2) :: own) a h (a + n) m W ⟨hp, by have := hT.ha; omega, hR, by have := hT.hl; simp only [List.length_cons]; omega, hSea, by omega, hv', hi'⟩ hlo.1 (by omega)
    · rw [← e2, show (a : Int) + (h : Int) = ((a + h : Nat) : Int) by omega, ← hp]
      exact ih j (by omega) A3 c3 ((a, c0.2) :: own) (a + h) h (a + n) m W ⟨hp, by have := hT.ha; omega, hR, by have := hT.hl; simp only [List.length_cons]; omega, hSea, by omega, hv', hi'⟩ hlo.1 (by omega)
  have HKN : Hid (∀ j, k = j + 1 → ∃ h, n = h * 2) := fun j hj => ⟨2 ^ j, by rw [hT.hn, hj, Nat.pow_succ]⟩
  have ha := hT.ha
  have HX := Lib.hid ((XS.begin w).fresh (.int .i64 0) (.slice none 0 0) 24)
  simp only [List.nil_append] at HX
  have hll : own.length ≤ 1000000 := by have := hT.hl; omega
  obtain ⟨B, hB⟩ : ∃ B, Tr.bld (cnt l) k a = B := ⟨_, rfl⟩
  rw [hB] at HBL HST ⊢
  clear hT ih hcut hinb hval hb0 hown hmn hmx hm hM hlen hB
  go_enter Tryd.func36, Tryd.ntmps36
  go_wp2_with fail
  refine hw.mono ?_
  rintro e w1 ⟨A1, c1, rfl, hg1, hb1⟩
  have HX1 := Lib.hid (HX.out.next hb1)
  have HR1 := Lib.hid hg1.row
  clear hw hb1 hg1 HX
  go_wp2_with fail
  refine (HLE.out w1 A1 c1 HR1.out).mono ?_
  rintro e w1' ⟨rfl, rfl⟩
  go_wp2_with fail
  refine (HGR.out w1 A1 c1 HR1.out).mono ?_
  rintro e w1' ⟨rfl, rfl⟩
  clear HLE HGR
  obtain ⟨u0, u1, ⟨d0, d1'⟩, f0, f1⟩ := HX1.out.facts w.heap.size (by simp)
  by_cases hMm : M = m
  · subst hMm
    have HBE : Hid (B = .leaf M) := HBL.out.1 rfl
    have HFIN : Hid (∀ u1 u2, InP (fun _ => False) ((w1.setCell ⟨w.heap.size, 0, none⟩ u1).setCell ⟨w.heap.size, 1, none⟩ u2) (.leaf (M - less)) (tv (M - less) none 0 0) ∧ Below w.heap.size w ((w1.setCell ⟨w.heap.size, 0, none⟩ u1).setCell ⟨w.heap.size, 1, none⟩ u2)) := fun u1 u2 => HX1.out.fin (P := fun _ => False) (t := .leaf (M - less)) (x := tv (M - less) none 0 0) _ (by simp) ⟨none, 0, rfl⟩ _ _
    clear HAH HIH HKN HX1 HBL HST HK0 HR1
    go_wp2
    refine bodyPost_ret (v := tv (M - less) none 0 0) (by simp [results, Tryd.f36, go_sem, tv, d0, d1']) rfl ?_
    refine ⟨_, rfl, ?_, (HFIN.out _ _).2⟩
    rw [HBE.out]
    exact (HFIN.out _ _).1.more fun _ h => h.elim
  · have hMb : (M == m) = false := beq_eq_false_iff_ne.2 hMm
    obtain ⟨j, hj⟩ : ∃ j, k = j + 1 := ⟨k - 1, by
      have : k ≠ 0 := fun h => hMm (HK0.out h)
      omega⟩
    obtain ⟨h, hh⟩ := HKN.out j hj
    have HBE : Hid (B = .node m ((Tr.bld (cnt l) j a).add (-m)) ((Tr.bld (cnt l) j (a + 2 ^ j)).add (-m))) := (HST.out j hj).trans (if_neg hMm)
    have HC1 := Lib.hid (HIH.out j h hj hh).1
    have HC2 := Lib.hid (HIH.out j h hj hh).2
    have hq : (n : Int).tdiv 2 = (h : Int) := by rw [Int.tdiv_eq_ediv_of_nonneg (by omega)]; omega
    obtain ⟨X, hX⟩ : ∃ X, (Tr.bld (cnt l) j a).add (-m) = X := ⟨_, rfl⟩
    obtain ⟨Y, hY⟩ : ∃ Y, (Tr.bld (cnt l) j (a + 2 ^ j)).add (-m) = Y := ⟨_, rfl⟩
    rw [hX, hY] at HBE
    rw [hX] at HC1
    rw [hY] at HC2
    have hah := HAH.out w1 A1 c1 HR1.out
    clear hj hX hY HIH HKN HBL HST HK0 HAH hMm d0 d1' f0 f1
    go_wp2_with fail
    refine hah.mono ?_
    rintro e w2 ⟨A2, c2, rfl, hg2, hb2⟩
    have HX2 := Lib.hid (HX1.out.next hb2)
    have HR2 := Lib.hid hg2.row
    clear hah hb2 hg2 HX1 HR1
    have hc1 := HC1.out w2 A2 c2 HR2.out
    go_wp2_with fail
    refine hc1.mono ?_
    rintro e w3 ⟨v3, rfl, ht3, hb3⟩
    obtain ⟨A3, n3, c3, rfl⟩ := ht3.form
    have HX3 := Lib.hid (HX2.out.next hb3)
    have HR3 := Lib.hid (HR2.out.up hb3)
    have HT3 : Hid (InP (New w w3) w3 X (tv X.N A3 n3 c3)) := ht3.more fun b hb => ⟨Nat.le_trans HX2.out.bel.size hb.1, hb.2⟩
    have hc2 := HC2.out w3 A2 c2 HR3.out
    clear hc1 hb3 ht3 HX2 HR2 HC1 HC2
    generalize X.N = o3 at *
    unfold tv
    go_wp2_with fail
    refine hc2.mono ?_
    rintro e w4 ⟨v4, rfl, ht4, hb4⟩
    obtain ⟨A4, n4, c4, rfl⟩ := ht4.form
    have HX4 := Lib.hid (HX3.out.next hb4)
    have HT3' : Hid (InP (New w w4) w4 X (tv o3 A3 n3 c3)) := (HT3.out.stay hb4).more fun b hb => ⟨hb.1, Nat.lt_of_lt_of_le hb.2 hb4.size⟩
    have HT4 : Hid (InP (New w w4) w4 Y (tv Y.N A4 n4 c4)) := ht4.more fun b hb => ⟨Nat.le_trans HX3.out.bel.size hb.1, hb.2⟩
    clear hc2 hb4 ht4 HX3 HR3 HT3
    generalize Y.N = o4 at *
    obtain ⟨u0, u1, ⟨d0, d1'⟩, f0, f1⟩ := HX4.out.facts w.heap.size (by simp)
    have hsz4 : w.heap.size < w4.heap.size := World.block_lt_of_cell? w4 _ d0
    obtain ⟨W5, hW5⟩ : ∃ W5, (w4.setCell ⟨w.heap.size, 0, none⟩ (.int .i64 (m - less))).setCell ⟨w.heap.size, 1, none⟩ (.slice (some ⟨w4.heap.size, 0, none⟩) 2 2) = W5 := ⟨_, rfl⟩
    have hX5 : XS w [] [w.heap.size] W5 := by rw [← hW5]; exact (HX4.out.store w.heap.size 0 _ (by simp) (by simp)).store w.heap.size 1 _ (by simp) (by simp)
    have hs5 : W5.heap.size = w4.heap.size := by rw [← hW5]; simp
    have r0 : W5.cell? ⟨w.heap.size, 0, none⟩ = some (.int .i64 (m - less)) := by
      rw [← hW5]
      refine (World.cell?_setCell_other _ _ _ _ (fun e => by injection e; omega)).trans ?_
      simp [go_sem, d0]
    have r1 : W5.cell? ⟨w.heap.size, 1, none⟩ = some (.slice (some ⟨w4.heap.size, 0, none⟩) 2 2) := by
      rw [← hW5]
      simp [go_sem, d1']
    obtain ⟨W6, hW6⟩ : ∃ W6, W5.alloc (.cells #[.int .i64 o3, .slice A3 n3 c3, .int .i64 o4, .slice A4 n4 c4] 24) = W6 := ⟨_, rfl⟩
    have hb56 : Below W5.heap.size W5 W6 := by rw [← hW6]; exact (Below.refl _ W5).alloc (Nat.le_refl _) _
    have HSS : Hid (W6.cell? ⟨w.heap.size, 0, none⟩ = some (.int .i64 (m - less)) ∧ W6.cell? ⟨w.heap.size, 1, none⟩ = some (.slice (some ⟨w4.heap.size, 0, none⟩) 2 2)) := ⟨(hb56.cell (World.block_lt_of_cell? W5 _ r0)).trans r0, (hb56.cell (World.block_lt_of_cell? W5 _ r1)).trans r1⟩
    have HFIN : Hid (InP (New w W6) W6 (.node (m - less) X Y) (tv (m - less) (some ⟨w4.heap.size, 0, none⟩) 2 2) ∧ Below w.heap.size w W6) := by
      have hbx := HX4.out.box w.heap.size (by simp)
      have hx5 : InP (New w w4) W5 X (tv o3 A3 n3 c3) := by rw [← hW5]; exact InP.set2 (hbx.1.set _) (InP.set2 hbx.1 HT3'.out)
      have hy5 : InP (New w w4) W5 Y (tv o4 A4 n4 c4) := by rw [← hW5]; exact InP.set2 (hbx.1.set _) (InP.set2 hbx.1 HT4.out)
      have hnew := heap_alloc_new W5 (.cells #[.int .i64 o3, .slice A3 n3 c3, .int .i64 o4, .slice A4 n4 c4] 24)
      rw [hW6, hs5] at hnew
      have hs6 : W6.heap.size = w4.heap.size + 1 := by rw [← hW6]; simp [hs5]
      exact ⟨two_in (P := New w w4) hnew (hx5.stay hb56) (hy5.stay hb56) (fun b hb => ⟨hb.1, by have := hb.2; omega⟩) ⟨by omega, by omega⟩, hX5.bel.trans (hb56.mono hX5.bel.size)⟩
    have HW6 := Lib.hid hW6
    have HW5 := Lib.hid hW5
    clear hX5 hs5 r0 r1 hb56 HX4 HT3' HT4 hW6 hW5
    unfold tv
    go_wp2
    rw [HW5.out, HW6.out]
    obtain ⟨s0, s1⟩ := HSS.out
    refine bodyPost_ret (v := tv (m - less) (some ⟨w4.heap.size, 0, none⟩) 2 2) (by simp [results, Tryd.f36, go_sem, tv, s0, s1]) rfl ?_
    refine ⟨_, rfl, ?_, HFIN.out.2⟩
    rw [HBE.out]
    exact HFIN.out.1
end Go.Proofs.YtflghlmikpfnpaaDoor.E
