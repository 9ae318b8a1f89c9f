/-
  The reference's Norm and Equal.
-/
import Derived.Test.YtkpefelakhbkhaaIBuild
namespace Go.Proofs.Ytkpefelakhbkhaa.I
open Go.RowKit

theorem ranges_mass : ∀ (t : Tr) (k a b m : Nat), t.depth ≤ k → mass (ranges t a (2 ^ k)) b m ≤ min (a + 2 ^ k) (b + m) - max a b
  | .leaf o, k, a, b, m, _ => by
    cases o
    · simp [ranges, mass_nil]
    · simp only [ranges, if_true, mass_cons, mass_nil]; unfold clip; simp only; omega
  | .node _ _, 0, _, _, _, h => by simp [Tr.depth] at h
  | .node x y, k + 1, a, b, m, h => by
    simp only [Tr.depth] at h
    have e2 : 2 ^ (k + 1) / 2 = 2 ^ k := by rw [Nat.pow_succ]; omega
    have hp := Nat.two_pow_pos k
    have h1 := ranges_mass x k a b m (by omega)
    have h2 := ranges_mass y k (a + 2 ^ k) b m (by omega)
    simp only [ranges, e2, mass_append]
    rw [Nat.pow_succ]
    omega
theorem ranges_mu (t : Tr) (k a b j : Nat) (h : t.depth ≤ k) : mu (ranges t a (2 ^ k)) b j ≤ 2 ^ j := by
  have := ranges_mass t k a b (2 ^ j) h
  have := Nat.two_pow_pos j
  have := Nat.two_pow_pos k
  unfold mu
  omega
theorem ranges_up : ∀ (t : Tr) (n a : Nat), ∀ r ∈ ranges t a n, r.1 ≤ r.2
  | .leaf o, n, a, r, hr => by
    cases o
    · simp [ranges] at hr
    · simp [ranges] at hr; subst hr; simp
  | .node x y, n, a, r, hr => by
    simp only [ranges] at hr
    rcases List.mem_append.1 hr with h | h
    · exact ranges_up x _ _ r h
    · exact ranges_up y _ _ r h
/-- What Norm answers. -/
def NormR (o : Bool) (ks : Fo) (w : World) (e : Ending) (w' : World) : Prop :=
  ((∃ t v, treeOf o ks = some t ∧ e = .returned (.tuple #[v, .int .i64 0]) ∧ InT w' w'.heap.size t.norm v) ∨ (treeOf o ks = none ∧ e = .returned (.tuple #[tv false none 0 0, .int .i64 2]))) ∧ Below w.heap.size w w'
set_option maxRecDepth 100000 in
set_option maxHeartbeats 1600000 in
theorem rnorm_any (o : Bool) (ks : Fo) (A : Option Addr) (c : Nat) (w : World) (hk : Kd w w.heap.size ks A) : Calls Try.prog 14 #[tv o A ks.len c] w (NormR o ks w) := by
  have hb0 : Below w.heap.size w ((w.alloc (.cells #[.bool o, .slice A ks.len c] 24)).alloc (.cells #[.bool false, .slice none 0 0] 24)) := ((Below.refl _ w).alloc (Nat.le_refl _) _).alloc (by simp) _
  have hc1 := rRight_any o ks A c ((w.alloc (.cells #[.bool o, .slice A ks.len c] 24)).alloc (.cells #[.bool false, .slice none 0 0] 24)) (hk.up hb0)
  have hbx : Box0 ((w.alloc (.cells #[.bool o, .slice A ks.len c] 24)).alloc (.cells #[.bool false, .slice none 0 0] 24)) (w.heap.size + 1) := by have := heap_alloc_new (w.alloc (.cells #[.bool o, .slice A ks.len c] 24)) (.cells #[.bool false, .slice none 0 0] 24); rwa [World.size_alloc] at this
  have HB0 := Lib.hid hb0
  have HBX := Lib.hid hbx
  have HK := Lib.hid hk
  unfold tv at hc1 ⊢
  cases ht : treeOf o ks with
  | none =>
    rw [ht] at hc1
    have HT := Lib.hid ht
    clear hb0 hbx hk ht
    go_enter Try.func14, Try.ntmps14
    go_wp2_with fail
    refine hc1.mono ?_
    rintro e w1 ⟨rfl, hb1⟩
    have HB1 : Hid (Below w.heap.size w w1) := HB0.out.trans (hb1.mono HB0.out.size)
    have HBX1 := HBX.out.below hb1 (by simp)
    obtain ⟨⟨c0, c1'⟩, f0, f1⟩ := HBX1.facts
    have HFIN : Hid (∀ u1 u2, Below w.heap.size w ((w1.setCell ⟨w.heap.size + 1, 0, none⟩ u1).setCell ⟨w.heap.size + 1, 1, none⟩ u2)) := fun u1 u2 => (HB1.out.setCell (p := ⟨w.heap.size + 1, 0, none⟩) (by show _ ≤ w.heap.size + 1; omega) _).setCell (p := ⟨w.heap.size + 1, 1, none⟩) (by show _ ≤ w.heap.size + 1; omega) _
    clear hb1 HBX1 hc1
    go_wp2
    refine bodyPost_ret (v := .tuple #[tv false none 0 0, .int .i64 2]) (by simp [results, Try.f14, go_sem, tv, c0, c1']) rfl ?_
    exact ⟨.inr ⟨HT.out, rfl⟩, HFIN.out _ _⟩
  | some t =>
    rw [ht] at hc1
    obtain ⟨hin, hd, hn⟩ := in_treeOf (c := c) ht hk
    have HIN := Lib.hid hin
    have HT := Lib.hid ht
    have HD := Lib.hid hd
    clear hb0 hbx hk ht hin
    go_enter Try.func14, Try.ntmps14
    go_wp2_with fail
    refine hc1.mono ?_
    rintro e w1 ⟨rfl, hb1⟩
    have HB1 : Hid (Below w.heap.size w w1) := HB0.out.trans (hb1.mono HB0.out.size)
    have HBX1 := Lib.hid (HBX.out.below hb1 (by simp))
    have hcell : w1.cell? ⟨w.heap.size, 0, none⟩ = some (.bool o) ∧ w1.cell? ⟨w.heap.size, 1, none⟩ = some (.slice A ks.len c) := by
      rw [hb1.cell (p := ⟨w.heap.size, 0, none⟩) (by simp; omega), hb1.cell (p := ⟨w.heap.size, 1, none⟩) (by simp; omega)]
      simp [go_sem]
    obtain ⟨m0, m1⟩ := hcell
    have hsz1 : w.heap.size + 1 < w1.heap.size := by have := hb1.size; simp at this; omega
    have hc2 := means_any t (tv o A ks.len c) w1 hd hn (HIN.out.up HB1.out)
    unfold tv at hc2
    clear hb1 hc1
    go_wp2_with fail
    refine hc2.mono ?_
    rintro e w2 ⟨A2, c2, rfl, hg2, hb2, _⟩
    have hlen : (ranges t 0 4294967296).length ≤ 1000000 := Nat.le_trans (ranges_len t 32 0) (by omega)
    have hvals : ∀ r ∈ ranges t 0 4294967296, r.1 ≤ 1000000000000 ∧ r.2 ≤ 1000000000000 := fun r hr => by
      have h1 := ranges_in t 32 0 HD.out r hr
      have h2 := ranges_up t _ _ r hr
      have e3 : (2 : Nat) ^ 32 = 4294967296 := rfl
      omega
    have hc3 := tree_any 32 A2 c2 (ranges t 0 4294967296) 0 4294967296 w2 rfl (by omega) hg2.row hlen hvals (fun b j => ranges_mu t 32 0 b j HD.out)
    have hbr : Tr.build (mu (ranges t 0 4294967296)) 32 0 = t.norm := build_ranges t 32 0 HD.out
    rw [hbr] at hc3
    simp only [Int.natCast_zero] at hc3
    have HB2 : Hid (Below w.heap.size w w2) := HB1.out.trans (hb2.mono HB1.out.size)
    have HBX2 := Lib.hid (HBX1.out.below hb2 hsz1)
    have hsz2 : w.heap.size + 1 < w2.heap.size := by have := hb2.size; omega
    clear hb2 hc2 hg2 hlen hvals hbr
    obtain ⟨N2, hN2⟩ : ∃ N2, (ranges t 0 4294967296).length = N2 := ⟨_, rfl⟩
    rw [hN2] at hc3 ⊢
    clear hN2
    go_wp2_with fail
    refine hc3.mono ?_
    rintro e w3 ⟨v3, rfl, ht3, hb3⟩
    obtain ⟨o5, A5, n5, c5, rfl⟩ := ht3.form
    have HBX3 := HBX2.out.below hb3 hsz2
    obtain ⟨⟨c0, c1'⟩, f0, f1⟩ := HBX3.facts
    have HFIN : Hid (∀ u1 u2, InT ((w3.setCell ⟨w.heap.size + 1, 0, none⟩ u1).setCell ⟨w.heap.size + 1, 1, none⟩ u2) ((w3.setCell ⟨w.heap.size + 1, 0, none⟩ u1).setCell ⟨w.heap.size + 1, 1, none⟩ u2).heap.size t.norm (tv o5 A5 n5 c5) ∧ Below w.heap.size w ((w3.setCell ⟨w.heap.size + 1, 0, none⟩ u1).setCell ⟨w.heap.size + 1, 1, none⟩ u2)) := fun u1 u2 => store_in HBX3 ht3 (HB2.out.trans (hb3.mono HB2.out.size)) (by omega)
    clear hb3 HBX3 ht3 hc3
    unfold tv
    go_wp2
    refine bodyPost_ret (v := .tuple #[tv o5 A5 n5 c5, .int .i64 0]) (by simp [results, Try.f14, go_sem, tv, c0, c1']) rfl ?_
    exact ⟨.inl ⟨t, _, HT.out, rfl, (HFIN.out _ _).1⟩, (HFIN.out _ _).2⟩
end Go.Proofs.Ytkpefelakhbkhaa.I
