/-
  The reference's tree and Norm.
-/
import Derived.Test.YtkpefelakhbkhaaINorm
namespace Go.Proofs.Ytkpefelakhbkhaa.I
open Go.RowKit

theorem below_drewN {B : Nat} {a w : World} (h : Below B a w) (n : Nat) : Below B a (w.drewN n) := by
  induction n with
  | zero => exact h
  | succ n ih => exact ih.drew
/-- A variable of two cells that is no part of a tree may be written. -/
def Box2 (w : World) (g : Nat) : Prop := ∃ cs : Array Value, w.heap[g]? = some (.cells cs 24 (0, 0)) ∧ cs.size = 2
theorem Box2.off {w : World} {g : Nat} (h : Box2 w g) {i : Nat} (hi : 2 ≤ i) : w.cell? ⟨g, i, none⟩ = none := by
  obtain ⟨cs, h1, h2⟩ := h
  rw [cell_of_row w g i cs 24 (0, 0) h1]
  exact Array.getElem?_eq_none (by omega)
theorem Box2.set {w : World} {g i : Nat} (h : Box2 w g) (u : Value) : Box2 (w.setCell ⟨g, i, none⟩ u) g := by
  obtain ⟨cs, h1, h2⟩ := h
  exact ⟨cs.setIfInBounds i u, by simp [World.setCell, Array.getElem?_modify, h1], by simpa using h2⟩
theorem Box2.below {w w' : World} {g B : Nat} (h : Box2 w g) (hb : Below B w w') (hg : g < B) : Box2 w' g := by
  obtain ⟨cs, h1, h2⟩ := h
  exact ⟨cs, (hb.block g hg).trans h1, h2⟩
theorem InT.set2 {w : World} {B g i : Nat} {u : Value} (h2 : Box2 w g) : ∀ {t : Tr} {v : Value}, InT w B t v → InT (w.setCell ⟨g, i, none⟩ u) B t v
  | .leaf _, _, h => h
  | .node _ _, _, ⟨b, off, c, e, hb, ⟨o1, A1, n1, c1, k1, k2, k3⟩, ⟨o2, A2, n2, c2, g1, g2, g3⟩⟩ => by
    have hne : b ≠ g := by
      rintro rfl
      rw [h2.off (by omega)] at g1; cases g1
    have hk : ∀ j, (w.setCell ⟨g, i, none⟩ u).cell? ⟨b, j, none⟩ = w.cell? ⟨b, j, none⟩ := fun j => World.cell?_setCell_other _ _ _ _ (fun e => by injection e with e1 _ _; exact hne e1.symm)
    exact ⟨b, off, c, e, hb, ⟨o1, A1, n1, c1, (hk _).trans k1, (hk _).trans k2, InT.set2 h2 k3⟩, ⟨o2, A2, n2, c2, (hk _).trans g1, (hk _).trans g2, InT.set2 h2 g3⟩⟩
theorem sum_take (l : List (Nat × Nat)) (j : Nat) (hj : j < l.length) : ((l.take (j + 1)).map fun r => r.2 - r.1).sum = ((l.take j).map fun r => r.2 - r.1).sum + ((l[j]'hj).2 - (l[j]'hj).1) := by
  rw [List.take_succ_eq_append_getElem hj, List.map_append, List.sum_append]
  simp only [List.map_cons, List.map_nil, List.sum_cons, List.sum_nil]
  omega
theorem sum_take_le (l : List (Nat × Nat)) (j : Nat) : ((l.take j).map fun r => r.2 - r.1).sum ≤ (l.map fun r => r.2 - r.1).sum := by
  conv => rhs; rw [← List.take_append_drop j l]
  rw [List.map_append, List.sum_append]; omega
theorem mass_within_le (l : List (Nat × Nat)) (a n b m : Nat) : mass (withinL l a n) b m ≤ mass l b m := by
  induction l with
  | nil => exact Nat.le_refl _
  | cons r l ih =>
    have e : withinL (r :: l) a n = (if (cutR r a n).1 < (cutR r a n).2 then [cutR r a n] else []) ++ withinL l a n := by
      unfold withinL
      rw [List.map_cons, List.filter_cons]
      by_cases h : (cutR r a n).1 < (cutR r a n).2 <;> simp [h]
    rw [e, mass_append, mass_cons]
    refine Nat.add_le_add ?_ ih
    split
    · rw [mass_cons, mass_nil]
      unfold clip cutR
      simp only
      omega
    · rw [mass_nil]; omega
theorem within_len (l : List (Nat × Nat)) (a n : Nat) : (withinL l a n).length ≤ l.length := by
  unfold withinL
  exact Nat.le_trans (List.length_filter_le _ _) (by simp)
theorem within_val (l : List (Nat × Nat)) (a n : Nat) (ha : a + n ≤ 1000000000000) : ∀ r ∈ withinL l a n, r.1 ≤ r.2 ∧ r.2 ≤ 1000000000000 := by
  intro r hr
  unfold withinL at hr
  obtain ⟨h1, h2⟩ := List.mem_filter.1 hr
  obtain ⟨x, _, rfl⟩ := List.mem_map.1 h1
  have := of_decide_eq_true h2
  unfold cutR at this ⊢
  simp only at this ⊢
  omega
/-- What tree answers: written into its result's variable. -/
def Box0 (w : World) (g : Nat) : Prop := w.heap[g]? = some (.cells #[.bool false, .slice none 0 0] 24 (0, 0))
theorem box_start (w : World) : Box0 (w.alloc (.cells #[.bool false, .slice none 0 0] 24)) w.heap.size := heap_alloc_new w _
theorem Box0.below {w w' : World} {g B : Nat} (h : Box0 w g) (hb : Below B w w') (hg : g < B) : Box0 w' g := (hb.block g hg).trans h
theorem Box0.facts {w : World} {g : Nat} (h : Box0 w g) : (w.cell? ⟨g, 0, none⟩ = some (.bool false) ∧ w.cell? ⟨g, 1, none⟩ = some (.slice none 0 0)) ∧ w.frozen? ⟨g, 0, none⟩ = false ∧ w.frozen? ⟨g, 1, none⟩ = false := by
  refine ⟨⟨?_, ?_⟩, ?_, ?_⟩
  · rw [cell_of_row w g 0 _ 24 (0, 0) h]; rfl
  · rw [cell_of_row w g 1 _ 24 (0, 0) h]; rfl
  · simp [World.frozen?, show w.heap[g]? = _ from h]
  · simp [World.frozen?, show w.heap[g]? = _ from h]
theorem Box0.two {w : World} {g : Nat} (h : Box0 w g) : Box2 w g := ⟨_, h, rfl⟩
/-- A tree that was stored into a variable of two cells. -/
theorem store_in {w W : World} {B g : Nat} {t : Tr} {v u1 u2 : Value} (hg : Box0 W g) (h : InT W W.heap.size t v) (hb : Below B w W) (hB : B ≤ g) : InT ((W.setCell ⟨g, 0, none⟩ u1).setCell ⟨g, 1, none⟩ u2) ((W.setCell ⟨g, 0, none⟩ u1).setCell ⟨g, 1, none⟩ u2).heap.size t v ∧ Below B w ((W.setCell ⟨g, 0, none⟩ u1).setCell ⟨g, 1, none⟩ u2) := by
  refine ⟨?_, (hb.setCell (p := ⟨g, 0, none⟩) hB _).setCell (p := ⟨g, 1, none⟩) hB _⟩
  have h1 := InT.set2 (i := 1) (u := u2) (hg.two.set u1) (InT.set2 (i := 0) (u := u1) hg.two h)
  have e : ((W.setCell ⟨g, 0, none⟩ u1).setCell ⟨g, 1, none⟩ u2).heap.size = W.heap.size := by simp
  rw [e]; exact h1
theorem build_zero {μ : Nat → Nat → Nat} {k a : Nat} (h : μ a k = 0) : Tr.build μ k a = .leaf false := by cases k <;> simp [Tr.build, h]
theorem build_full {μ : Nat → Nat → Nat} {k a : Nat} (h : μ a k = 2 ^ k) : Tr.build μ k a = .leaf true := by
  have hp := Nat.two_pow_pos k
  cases k with
  | zero => simp [Tr.build, h]
  | succ k =>
    simp only [Tr.build, h]
    rw [if_neg (by omega), if_pos trivial]
theorem build_mid {μ : Nat → Nat → Nat} {k a : Nat} (h0 : μ a (k + 1) ≠ 0) (h1 : μ a (k + 1) ≠ 2 ^ (k + 1)) : Tr.build μ (k + 1) a = (Tr.build μ k a).mk2 (Tr.build μ k (a + 2 ^ k)) := by
  simp only [Tr.build]; rw [if_neg h0, if_neg h1]

set_option maxRecDepth 100000 in
set_option maxHeartbeats 3200000 in
theorem tree_any (k : Nat) : ∀ (A : Option Addr) (c : Nat) (l : List (Nat × Nat)) (a n : Nat) (w : World), n = 2 ^ k → a + n ≤ 1000000000000 → RowR w w.heap.size A l → l.length ≤ 1000000 → (∀ r ∈ l, r.1 ≤ 1000000000000 ∧ r.2 ≤ 1000000000000) → (∀ b j, mu l b j ≤ 2 ^ j) →
    Calls Try.prog 37 #[.slice A l.length c, .int .u64 (a : Int), .int .u64 (n : Int)] w (Trees (Tr.build (mu l) k a) w) := by
  induction k using Nat.strongRecOn with
  | _ k ih =>
  intro A c l a n w hn ha hr hl hv hmu
  have hb0 : Below w.heap.size w (w.alloc (.cells #[.bool false, .slice none 0 0] 24)) := (Below.refl _ w).alloc (Nat.le_refl _) _
  have hw := within_any A c l a n (w.alloc (.cells #[.bool false, .slice none 0 0] 24)) (hr.up hb0) hl hv ha
  have hsum : ((withinL l a n).map fun r => r.2 - r.1).sum = mu l a k := by rw [← mass_sum, mass_within l a n a n (Nat.le_refl _) (Nat.le_refl _), hn]; rfl
  have hm := hmu a k
  rw [← hn] at hm
  have hlen := within_len l a n
  have hval := within_val l a n ha
  have hmuO : ∀ b j, a ≤ b → b + 2 ^ j ≤ a + n → mu (withinL l a n) b j = mu l b j := fun b j h1 h2 => mass_within l a n b (2 ^ j) h1 h2
  obtain ⟨own, hown⟩ : ∃ own, withinL l a n = own := ⟨_, rfl⟩
  have hmu2 : ∀ b j, mu (withinL l a n) b j ≤ 2 ^ j := fun b j => Nat.le_trans (mass_within_le l a n b (2 ^ j)) (hmu b j)
  rw [hown] at hw hsum hlen hval hmuO hmu2
  obtain ⟨S, hS⟩ : ∃ S, mu l a k = S := ⟨_, rfl⟩
  rw [hS] at hsum hm
  have HSUM := Lib.hid hsum
  have HS := Lib.hid hS
  have HVAL := Lib.hid hval
  have HMO := Lib.hid hmuO
  have HMU2 := Lib.hid hmu2
  have HB0 := Lib.hid hb0
  have HN := Lib.hid hn
  have HBX := Lib.hid (box_start w)
  clear hown hr hv hmu hb0 hsum hS hval hmuO hmu2 hn
  go_enter Try.func37, Try.ntmps37
  go_wp2_with fail
  refine hw.mono ?_
  rintro e w1 ⟨A1, c1, rfl, hg1, hb1⟩
  have hB1 : Below w.heap.size w w1 := HB0.out.trans (hb1.mono (by simp))
  have HROW := Lib.hid hg1.row
  have HBX1 := Lib.hid (HBX.out.below hb1 (by simp))
  have HB1 := Lib.hid hB1
  have hsz1 : w.heap.size + 1 ≤ w1.heap.size := by have := hb1.size; simpa using this
  have HSZ1 := Lib.hid hsz1
  clear hw hg1 hb1 hB1 hsz1
  go_wp2
  go_loopg [8, 9] own.length (fun q o i wr => ∃ (j s : Nat), j ≤ own.length ∧ q = own.length - j ∧ i = .int .i64 j ∧ o = .int .u64 (s : Int) ∧ Hid (s = ((own.take j).map fun r => r.2 - r.1).sum) ∧ Hid (Below w1.heap.size w1 wr))
  case atStart => exact ⟨0, 0, by omega, by omega, rfl, rfl, by show _ = _; simp, Below.refl _ _⟩
  case round =>
    obtain ⟨j, s, hj, hgk, rfl, rfl, hs, hB⟩ := hrel
    have HGK := Lib.hid hgk; clear hgk
    by_cases hlt : j < own.length
    · obtain ⟨b, off, rfl, hb, F1⟩ := HROW.out.at j hlt
      obtain ⟨hv1, hv2⟩ := HVAL.out _ (List.getElem_mem hlt)
      have hnext := sum_take own j hlt
      have hle := sum_take_le own (j + 1)
      rw [HSUM.out] at hle
      obtain ⟨f0, f1⟩ := F1.out wr hB.out
      obtain ⟨x, hx⟩ : ∃ x, (own[j]'hlt).1 = x := ⟨_, rfl⟩
      obtain ⟨y, hy⟩ : ∃ y, (own[j]'hlt).2 = y := ⟨_, rfl⟩
      simp only [hx, hy] at f0 f1 hv1 hv2 hnext
      have HNX : Hid (s + (y - x) = ((own.take (j + 1)).map fun r => r.2 - r.1).sum) := by show _ = _; rw [hnext, hs.out]
      have hbound : s ≤ 1000000000000 := by have := HNX.out; omega
      have hw1 : IntKind.u64.wrap ((s : Int) + (y : Int)) = (s : Int) + (y : Int) := by rw [IntKind.wrap_u64]; omega
      have hw2 : IntKind.u64.wrap ((s : Int) + (y : Int) - (x : Int)) = ((s + (y - x) : Nat) : Int) := by rw [IntKind.wrap_u64]; omega
      obtain ⟨s2, hs2⟩ : ∃ s2, s + (y - x) = s2 := ⟨_, rfl⟩
      rw [hs2] at hw2 HNX
      clear hnext hle hx hy F1 hs2
      go_wp2
      go_quiet (fail)
      have HB2 : Hid (Below w1.heap.size w1 (wr.drewN nq)) := below_drewN hB.out nq
      generalize wr.drewN nq = w2 at *
      go_wp2
      go_roundg (own.length - (j + 1))
      case measure => have := HGK.out; omega
      case rel => exact ⟨j + 1, s2, by omega, rfl, by go_num, rfl, HNX, HB2⟩
    · obtain rfl : j = own.length := by omega
      have hsS : s = S := by rw [hs.out, List.take_length]; exact HSUM.out
      subst hsS
      have HB2 : Hid (Below w.heap.size w wr) := HB1.out.trans (hB.out.mono HB1.out.size)
      have HBX2 := Lib.hid (HBX1.out.below hB.out (by have := HSZ1.out; omega))
      have hszr : w.heap.size < wr.heap.size := by have := HSZ1.out; have := hB.out.size; omega
      have hnp : 0 < n := by rw [HN.out]; exact Nat.two_pow_pos k
      by_cases h0 : s = 0
      · subst h0
        have HR := Lib.hid (build_zero HS.out)
        have hz : ((0 : Int) == (n : Int)) = false := beq_eq_false_iff_ne.2 (by omega)
        clear ih
        go_wp2_with fail
        refine (leaf_any _ _).mono ?_
        rintro e w3 ⟨rfl, hb3⟩
        have HBX3 := HBX2.out.below hb3 hszr
        obtain ⟨⟨c0, c1'⟩, f0, f1⟩ := HBX3.facts
        have HFIN : Hid (∀ u1 u2, InT ((w3.setCell ⟨w.heap.size, 0, none⟩ u1).setCell ⟨w.heap.size, 1, none⟩ u2) ((w3.setCell ⟨w.heap.size, 0, none⟩ u1).setCell ⟨w.heap.size, 1, none⟩ u2).heap.size (.leaf false) (tv false none 0 0) ∧ Below w.heap.size w ((w3.setCell ⟨w.heap.size, 0, none⟩ u1).setCell ⟨w.heap.size, 1, none⟩ u2)) := fun u1 u2 => store_in HBX3 ⟨none, 0, rfl⟩ (HB2.out.trans (hb3.mono HB2.out.size)) (Nat.le_refl _)
        clear hb3 HBX3
        unfold tv
        go_wp2
        refine bodyPost_ret (v := tv false none 0 0) (by simp [results, Try.f37, go_sem, tv, c0, c1']) rfl ?_
        refine ⟨_, rfl, ?_, (HFIN.out _ _).2⟩
        rw [HR.out]; exact (HFIN.out _ _).1
      · by_cases hf : s = n
        · subst hf
          have HR := Lib.hid (build_full (μ := mu l) (k := k) (a := a) (by rw [HS.out]; exact HN.out))
          have hz : ((s : Int) == 0) = false := beq_eq_false_iff_ne.2 (by omega)
          clear ih
          go_wp2_with fail
          refine (leaf_any _ _).mono ?_
          rintro e w3 ⟨rfl, hb3⟩
          have HBX3 := HBX2.out.below hb3 hszr
          obtain ⟨⟨c0, c1'⟩, f0, f1⟩ := HBX3.facts
          have HFIN : Hid (∀ u1 u2, InT ((w3.setCell ⟨w.heap.size, 0, none⟩ u1).setCell ⟨w.heap.size, 1, none⟩ u2) ((w3.setCell ⟨w.heap.size, 0, none⟩ u1).setCell ⟨w.heap.size, 1, none⟩ u2).heap.size (.leaf true) (tv true none 0 0) ∧ Below w.heap.size w ((w3.setCell ⟨w.heap.size, 0, none⟩ u1).setCell ⟨w.heap.size, 1, none⟩ u2)) := fun u1 u2 => store_in HBX3 ⟨none, 0, rfl⟩ (HB2.out.trans (hb3.mono HB2.out.size)) (Nat.le_refl _)
          clear hb3 HBX3
          unfold tv
          go_wp2
          refine bodyPost_ret (v := tv true none 0 0) (by simp [results, Try.f37, go_sem, tv, c0, c1']) rfl ?_
          refine ⟨_, rfl, ?_, (HFIN.out _ _).2⟩
          rw [HR.out]; exact (HFIN.out _ _).1
        · obtain ⟨k, rfl⟩ : ∃ k', k = k' + 1 := ⟨k - 1, by
            rcases Nat.eq_zero_or_pos k with h | h
            · subst h; have := HN.out; simp at this; omega
            · omega⟩
          have HR : Hid (Tr.build (mu l) (k + 1) a = (Tr.build (mu own) k a).mk2 (Tr.build (mu own) k (a + 2 ^ k))) := by
            show _ = _
            have hp := Nat.two_pow_pos k
            have e2 : n = 2 ^ k * 2 := by rw [HN.out, Nat.pow_succ]
            rw [build_mid (by rw [HS.out]; exact h0) (by rw [HS.out, ← HN.out]; exact hf)]
            rw [Tr.build_congr k a (fun j b h1 h2 => (HMO.out b j h1 (by omega)).symm), Tr.build_congr k (a + 2 ^ k) (fun j b h1 h2 => (HMO.out b j (by omega) (by omega)).symm)]
          obtain ⟨h, hh⟩ : ∃ h, 2 ^ k = h := ⟨_, rfl⟩
          have hn2 : n = h * 2 := by rw [HN.out, Nat.pow_succ, hh]
          rw [hh] at HR
          have hq : (n : Int).tdiv 2 = (h : Int) := by rw [Int.tdiv_eq_ediv_of_nonneg (by omega)]; omega
          have hwh : IntKind.u64.wrap (h : Int) = (h : Int) := by rw [IntKind.wrap_u64]; omega
          have hwa : IntKind.u64.wrap ((a : Int) + (h : Int)) = (a : Int) + (h : Int) := by rw [IntKind.wrap_u64]; omega
          have hz1 : ((s : Int) == 0) = false := beq_eq_false_iff_ne.2 (by omega)
          have hz2 : ((s : Int) == (n : Int)) = false := beq_eq_false_iff_ne.2 (by omega)
          have hov : ∀ r ∈ own, r.1 ≤ 1000000000000 ∧ r.2 ≤ 1000000000000 := fun r hr => by have := HVAL.out r hr; omega
          have hcall1 := ih k (by omega) A1 c1 own a h wr hh.symm (by omega) (HROW.out.up hB.out) (by omega) hov HMU2.out
          have H2 := Lib.hid hn2
          have HHH := Lib.hid hh
          have hcall2 := fun W hB' => ih k (by omega) A1 c1 own (a + h) h W hh.symm (by omega) hB' (by omega) hov HMU2.out
          simp only [show ((a + h : Nat) : Int) = (a : Int) + (h : Int) by omega] at hcall2
          obtain ⟨T1, hT1⟩ : ∃ T1, Tr.build (mu own) k a = T1 := ⟨_, rfl⟩
          obtain ⟨T2, hT2⟩ : ∃ T2, Tr.build (mu own) k (a + h) = T2 := ⟨_, rfl⟩
          simp only [hT1, hT2] at hcall1 hcall2 HR
          have HROWR := Lib.hid (HROW.out.up hB.out)
          have HS0 := Lib.hid h0
          have HSF := Lib.hid hf
          clear ih hn2 hh hov hT1 hT2 h0 hf
          go_wp2_with fail
          refine hcall1.mono ?_
          rintro e w3 ⟨v1, rfl, ht1, hb3⟩
          have hc2 := hcall2 w3 (HROWR.out.up hb3)
          have HBX3 := Lib.hid (HBX2.out.below hb3 hszr)
          have HB3 : Hid (Below w.heap.size w w3) := HB2.out.trans (hb3.mono HB2.out.size)
          have HT1 := Lib.hid ht1
          have hs3 : w.heap.size < w3.heap.size := by have := hb3.size; omega
          clear hb3 ht1 hcall1 hcall2
          go_wp2_with fail
          refine hc2.mono ?_
          rintro e w4 ⟨v2, rfl, ht2, hb4⟩
          have hc3 := node_any T1 T2 v1 v2 w4 (HT1.out.up hb4) ht2
          have HBX4 := Lib.hid (HBX3.out.below hb4 hs3)
          have HB4 : Hid (Below w.heap.size w w4) := HB3.out.trans (hb4.mono HB3.out.size)
          have hs4 : w.heap.size < w4.heap.size := by have := hb4.size; omega
          clear hb4 ht2 hc2
          go_wp2_with fail
          refine hc3.mono ?_
          rintro e w5 ⟨v3, rfl, ht3, hb5⟩
          obtain ⟨o5, A5, n5, c5, rfl⟩ := ht3.form
          have HBX5 := HBX4.out.below hb5 hs4
          obtain ⟨⟨c0, c1'⟩, f0, f1⟩ := HBX5.facts
          have HFIN : Hid (∀ u1 u2, InT ((w5.setCell ⟨w.heap.size, 0, none⟩ u1).setCell ⟨w.heap.size, 1, none⟩ u2) ((w5.setCell ⟨w.heap.size, 0, none⟩ u1).setCell ⟨w.heap.size, 1, none⟩ u2).heap.size (T1.mk2 T2) (tv o5 A5 n5 c5) ∧ Below w.heap.size w ((w5.setCell ⟨w.heap.size, 0, none⟩ u1).setCell ⟨w.heap.size, 1, none⟩ u2)) := fun u1 u2 => store_in HBX5 ht3 (HB4.out.trans (hb5.mono HB4.out.size)) (Nat.le_refl _)
          clear hb5 HBX5 ht3 hc3
          unfold tv
          go_wp2
          refine bodyPost_ret (v := tv o5 A5 n5 c5) (by simp [results, Try.f37, go_sem, tv, c0, c1']) rfl ?_
          refine ⟨_, rfl, ?_, (HFIN.out _ _).2⟩
          rw [HR.out]; exact (HFIN.out _ _).1
end Go.Proofs.Ytkpefelakhbkhaa.I
