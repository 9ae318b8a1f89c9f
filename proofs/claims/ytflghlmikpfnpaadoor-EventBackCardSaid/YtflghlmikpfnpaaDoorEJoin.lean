/-
  The program's join.
-/
import Derived.Test.YtflghlmikpfnpaaDoorEHalves
namespace Go.Proofs.YtflghlmikpfnpaaDoor.E
open Go.RowKit

def bothLeaf : Tr → Tr → Bool
  | .leaf _, .leaf _ => true
  | _, _ => false
theorem join_halves (a b : Tr) (x y : Int) (h : bothLeaf a b = false) : Tr.join a b x y = Tr.raise 0 (Tr.join (half1 a) (half1 b) (x + a.N) (y + b.N)) (Tr.join (half2 a) (half2 b) (x + a.N) (y + b.N)) := by
  cases a <;> cases b <;> first | (simp [bothLeaf] at h; done) | (rw [Tr.join]; rfl)
theorem join_leaves (a b : Tr) (x y : Int) (h : bothLeaf a b = true) : Tr.join a b x y = .leaf (max (x + a.N) (y + b.N)) := by
  cases a <;> cases b <;> first | (simp [bothLeaf] at h; done) | (rw [Tr.join]; rfl)
theorem half_okc {t : Tr} {m : Int} (h : t.okc m = true) : (half1 t).okc (m - t.N) = true ∧ (half2 t).okc (m - t.N) = true := by
  cases t with
  | leaf n => simp only [Tr.okc, decide_eq_true_eq] at h; simp [half1, half2, Tr.okc, Tr.N]; omega
  | node n l r => simp only [Tr.okc, Bool.and_eq_true_iff] at h; exact ⟨h.2.1, h.2.2⟩
theorem half_nodes (a b : Tr) (h : bothLeaf a b = false) : (half1 a).nodes + (half1 b).nodes < a.nodes + b.nodes ∧ (half2 a).nodes + (half2 b).nodes < a.nodes + b.nodes := by
  cases a <;> cases b <;> first | (simp [bothLeaf] at h; done) | (simp only [half1, half2, Tr.nodes]; omega)
theorem join_N {a b : Tr} {x y m : Int} (hx : 0 ≤ x) (ha : a.okc (m - x) = true) (hb : b.okc (m - y) = true) : 0 ≤ (Tr.join a b x y).N ∧ (Tr.join a b x y).N ≤ m := by
  obtain ⟨f, hf⟩ := (nf_join a b x y).low_at
  rw [← hf, den_join]
  have := okc_den a _ ha f
  have := okc_den b _ hb f
  omega
theorem leafy_both {P : Nat → Prop} {w : World} {a b : Tr} {o1 o2 : Int} {A1 A2 : Option Addr} {n1 n2 c1 c2 : Nat} (ha : InP P w a (tv o1 A1 n1 c1)) (hb : InP P w b (tv o2 A2 n2 c2)) : bothLeaf a b = (decide (n1 = 0) && decide (n2 = 0)) := by
  rcases ha.leafy with ⟨rfl, rfl⟩ | ⟨rfl, l, r, rfl⟩
  · rcases hb.leafy with ⟨rfl, rfl⟩ | ⟨rfl, l, r, rfl⟩ <;> simp [bothLeaf]
  · cases b <;> simp [bothLeaf]

set_option maxRecDepth 100000 in
set_option maxHeartbeats 6400000 in
theorem join_any (N : Nat) : ∀ (a b : Tr) (x y : Int) (P : Nat → Prop) (u v : Value) (w : World), a.nodes + b.nodes < N → InP P w a u → InP P w b v → 0 ≤ x → 0 ≤ y → x ≤ 4611686018427387904 → y ≤ 4611686018427387904 → a.okc (4611686018427387904 - x) = true → b.okc (4611686018427387904 - y) = true →
    Calls Tryd.prog 45 #[u, v, .int .i64 x, .int .i64 y] w (Trees (Tr.join a b x y) w) := by
  induction N with
  | zero => intro a b x y P u v w h; omega
  | succ N ih =>
  intro a b x y P u v w hN ha hb hx hy hx2 hy2 hoa hob
  obtain ⟨A1, n1, c1, rfl⟩ := ha.form
  obtain ⟨A2, n2, c2, rfl⟩ := hb.form
  have HBL := Lib.hid (leafy_both ha hb)
  have hna := okc_N _ _ hoa
  have hnb := okc_N _ _ hob
  have HJL := Lib.hid (join_leaves a b x y)
  have HJH := Lib.hid (join_halves a b x y)
  have HHN := Lib.hid (half_nodes a b)
  have hka := half_okc hoa
  have hkb := half_okc hob
  have hjn1 := Lib.hid (join_N (x := x + a.N) (y := y + b.N) (m := 4611686018427387904) (by omega) (by rw [show (4611686018427387904 : Int) - (x + a.N) = 4611686018427387904 - x - a.N by omega]; exact hka.1) (by rw [show (4611686018427387904 : Int) - (y + b.N) = 4611686018427387904 - y - b.N by omega]; exact hkb.1))
  have hjn2 := Lib.hid (join_N (x := x + a.N) (y := y + b.N) (m := 4611686018427387904) (by omega) (by rw [show (4611686018427387904 : Int) - (x + a.N) = 4611686018427387904 - x - a.N by omega]; exact hka.2) (by rw [show (4611686018427387904 : Int) - (y + b.N) = 4611686018427387904 - y - b.N by omega]; exact hkb.2))
  have HC1 : Hid (bothLeaf a b = false → ∀ W u v, InP P W (half1 a) u → InP P W (half1 b) v → Calls Tryd.prog 45 #[u, v, .int .i64 (x + a.N), .int .i64 (y + b.N)] W (Trees (Tr.join (half1 a) (half1 b) (x + a.N) (y + b.N)) W)) := fun hbl W u v hu hv => by
    have := HHN.out hbl
    refine ih _ _ _ _ P u v W (by omega) hu hv (by omega) (by omega) (by omega) (by omega) ?_ ?_
    · rw [show (4611686018427387904 : Int) - (x + a.N) = 4611686018427387904 - x - a.N by omega]; exact hka.1
    · rw [show (4611686018427387904 : Int) - (y + b.N) = 4611686018427387904 - y - b.N by omega]; exact hkb.1
  have HC2 : Hid (bothLeaf a b = false → ∀ W u v, InP P W (half2 a) u → InP P W (half2 b) v → Calls Tryd.prog 45 #[u, v, .int .i64 (x + a.N), .int .i64 (y + b.N)] W (Trees (Tr.join (half2 a) (half2 b) (x + a.N) (y + b.N)) W)) := fun hbl W u v hu hv => by
    have := HHN.out hbl
    refine ih _ _ _ _ P u v W (by omega) hu hv (by omega) (by omega) (by omega) (by omega) ?_ ?_
    · rw [show (4611686018427387904 : Int) - (x + a.N) = 4611686018427387904 - x - a.N by omega]; exact hka.2
    · rw [show (4611686018427387904 : Int) - (y + b.N) = 4611686018427387904 - y - b.N by omega]; exact hkb.2
  have HHA : Hid (∀ W, Below w.heap.size w W → Calls Tryd.prog 74 #[tv a.N A1 n1 c1] W (Halves P a W)) := fun W hW => halves_any a P _ W (ha.stay hW)
  have HHB : Hid (∀ W, Below w.heap.size w W → Calls Tryd.prog 74 #[tv b.N A2 n2 c2] W (Halves P b W)) := fun W hW => halves_any b P _ W (hb.stay hW)
  clear ih ha hb hoa hob hka hkb HHN hN
  generalize a.N = o1 at *
  generalize b.N = o2 at *
  unfold tv at *
  have HX := Lib.hid ((((XS.begin w).boxed (.int .i64 o1) (.slice A1 n1 c1) 24).boxed (.int .i64 o2) (.slice A2 n2 c2) 24).fresh (.int .i64 0) (.slice none 0 0) 24)
  simp only [List.nil_append, List.cons_append, World.size_alloc] at HX
  have HF : Hid (∀ W, XS w [(w.heap.size, 0, .int .i64 o1), (w.heap.size, 1, .slice A1 n1 c1), (w.heap.size + 1, 0, .int .i64 o2), (w.heap.size + 1, 1, .slice A2 n2 c2)] [w.heap.size, w.heap.size + 1, w.heap.size + 1 + 1] W → W.cell? ⟨w.heap.size, 0, none⟩ = some (.int .i64 o1) ∧ W.cell? ⟨w.heap.size, 1, none⟩ = some (.slice A1 n1 c1) ∧ W.cell? ⟨w.heap.size + 1, 0, none⟩ = some (.int .i64 o2) ∧ W.cell? ⟨w.heap.size + 1, 1, none⟩ = some (.slice A2 n2 c2)) := fun W hW => ⟨hW.get (by simp), hW.get (by simp), hW.get (by simp), hW.get (by simp)⟩
  have hw1 : IntKind.i64.wrap (x + o1) = x + o1 := wrap_id (by omega) (by omega)
  have hw2 : IntKind.i64.wrap (y + o2) = y + o2 := wrap_id (by omega) (by omega)
  go_enter Tryd.func45, Tryd.ntmps45
  go_wp2
  have hXD := HX.out.drew
  clear HX
  refine wp_region_held_drew (S := fun W => XS w [(w.heap.size, 0, .int .i64 o1), (w.heap.size, 1, .slice A1 n1 c1), (w.heap.size + 1, 0, .int .i64 o2), (w.heap.size + 1, 1, .slice A2 n2 c2)] [w.heap.size, w.heap.size + 1, w.heap.size + 1 + 1] W) (by kernel_rfl) hXD (fun hS => ?_)
  clear hXD
  generalize (((w.alloc (.cells #[.int .i64 o1, .slice A1 n1 c1] 24)).alloc (.cells #[.int .i64 o2, .slice A2 n2 c2] 24)).alloc (.cells #[.int .i64 0, .slice none 0 0] 24)).drew = wd at hS ⊢
  refine wpAnyH_take (i := 0) (v := ?_) rfl (by kernel_rfl) (by kernel_rfl) (by kernel_rfl) (fun _ _ _ h => h) (Yields.yieldsIf (Or.inl ⟨by kernel_rfl, ?_⟩)) hS ?_
  rotate_left
  · first | (intro w; go_simp; done) | (intro w; go_simp; with_reducible rfl)
  refine wpAnyH_take (i := 1) (v := ?_) rfl (by kernel_rfl) (by kernel_rfl) (by kernel_rfl) (fun _ _ _ h => h) (Yields.yieldsIf (Or.inl ⟨by kernel_rfl, ?_⟩)) hS ?_
  rotate_left
  · first | (intro w; go_simp; done) | (intro w; go_simp; with_reducible rfl)
  refine wpAnyH_take (i := 2) (v := ?_) rfl (by kernel_rfl) (by kernel_rfl) (by kernel_rfl) (fun _ _ _ h => h) (Or.inl ⟨by kernel_rfl, fun W hW => ?_⟩) hS ?_
  rotate_left
  · obtain ⟨f0, f1, f2, f3⟩ := HF.out W hW
    first | (go_simp; done) | (go_simp; with_reducible rfl)
  refine wpAnyH_take (i := 3) (v := ?_) rfl (by kernel_rfl) (by kernel_rfl) (by kernel_rfl) (fun _ _ _ h => h) (Yields.yieldsIf (Or.inl ⟨by kernel_rfl, ?_⟩)) hS ?_
  rotate_left
  · first | (intro w; go_simp; done) | (intro w; go_simp; with_reducible rfl)
  refine wpAnyH_take (i := 4) (v := ?_) rfl (by kernel_rfl) (by kernel_rfl) (by kernel_rfl) (fun _ _ _ h => h) (Yields.yieldsIf (Or.inl ⟨by kernel_rfl, ?_⟩)) hS ?_
  rotate_left
  · first | (intro w; go_simp; done) | (intro w; go_simp; with_reducible rfl)
  refine wpAnyH_take (i := 5) (v := ?_) rfl (by kernel_rfl) (by kernel_rfl) (by kernel_rfl) (fun _ _ _ h => h) (Yields.yieldsIf (Or.inl ⟨by kernel_rfl, ?_⟩)) hS ?_
  rotate_left
  · first | (intro w; go_simp; done) | (intro w; go_simp; with_reducible rfl)
  refine wpAnyH_take (i := 6) (v := ?_) rfl (by kernel_rfl) (by kernel_rfl) (by kernel_rfl) (fun _ _ _ h => h) (Or.inl ⟨by kernel_rfl, fun W hW => ?_⟩) hS ?_
  rotate_left
  · obtain ⟨f0, f1, f2, f3⟩ := HF.out W hW
    first | (go_simp; done) | (go_simp; with_reducible rfl)
  refine wpAnyH_take (i := 7) (v := ?_) rfl (by kernel_rfl) (by kernel_rfl) (by kernel_rfl) (fun _ _ _ h => h) (Yields.yieldsIf (Or.inl ⟨by kernel_rfl, ?_⟩)) hS ?_
  rotate_left
  · first | (intro w; go_simp; done) | (intro w; go_simp; with_reducible rfl)
  refine wpAnyH_take (i := 8) (v := ?_) rfl (by kernel_rfl) (by kernel_rfl) (by kernel_rfl) (fun _ _ _ h => h) (Yields.yieldsIf (Or.inl ⟨by kernel_rfl, ?_⟩)) hS ?_
  rotate_left
  · first | (intro w; go_simp; done) | (intro w; go_simp; with_reducible rfl)
  refine wpAnyH_take (i := 9) (v := ?_) rfl (by kernel_rfl) (by kernel_rfl) (by kernel_rfl) (fun _ _ _ h => h) (Yields.yieldsIf (Or.inl ⟨by kernel_rfl, ?_⟩)) hS ?_
  rotate_left
  · first | (intro w; go_simp; done) | (intro w; go_simp; with_reducible rfl)
  refine wpAnyH_done (by kernel_rfl) ?_ _
  have HS := Lib.hid hS
  obtain ⟨p0, p1, p2, p3⟩ := HF.out wd hS
  have hl1 := pleaf_any o1 A1 n1 c1 wd
  unfold tv at hl1
  obtain ⟨b1, hb1e⟩ : ∃ b1, decide (n1 = 0) = b1 := ⟨_, rfl⟩
  obtain ⟨b2, hb2e⟩ : ∃ b2, decide (n2 = 0) = b2 := ⟨_, rfl⟩
  have hl2 := fun W => pleaf_any o2 A2 n2 c2 W
  unfold tv at hl2
  rw [hb1e] at hl1
  rw [hb2e] at hl2
  have HBL2 : Hid (bothLeaf a b = (b1 && b2)) := by show _ = _; rw [← hb1e, ← hb2e]; exact HBL.out
  clear hS HBL hb1e hb2e
  go_wp2_with fail
  refine hl1.mono ?_
  rintro e w1 ⟨rfl, hb1⟩
  have HS1 := Lib.hid (HS.out.next hb1)
  clear HS hb1 hl1 p0 p1 p2 p3
  obtain ⟨p0, p1, p2, p3⟩ := HF.out w1 HS1.out
  have REST : Hid (∀ W, XS w [(w.heap.size, 0, .int .i64 o1), (w.heap.size, 1, .slice A1 n1 c1), (w.heap.size + 1, 0, .int .i64 o2), (w.heap.size + 1, 1, .slice A2 n2 c2)] [w.heap.size, w.heap.size + 1, w.heap.size + 1 + 1] W → bothLeaf a b = false → True) := fun _ _ _ => trivial
  cases b1 with
  | true =>
    go_wp2_with fail
    refine (hl2 w1).mono ?_
    rintro e w2 ⟨rfl, hb2⟩
    have HS2 := Lib.hid (HS1.out.next hb2)
    clear HS1 hb2 hl2 p0 p1 p2 p3
    obtain ⟨p0, p1, p2, p3⟩ := HF.out w2 HS2.out
    cases b2 with
    | true =>
      obtain ⟨u0, u1, ⟨c0, c1'⟩, f0, f1⟩ := HS2.out.facts (w.heap.size + 1 + 1) (by simp)
      have hmx : (if x + o1 < y + o2 then y + o2 else x + o1) = max (x + o1) (y + o2) := by omega
      obtain ⟨z, hz⟩ : ∃ z, max (x + o1) (y + o2) = z := ⟨_, rfl⟩
      rw [hz] at hmx
      have HJ : Hid (Tr.join a b x y = .leaf z) := (HJL.out HBL2.out).trans (by rw [hz])
      have HFIN : Hid (∀ u1 u2, InP (fun _ => False) ((w2.setCell ⟨w.heap.size + 1 + 1, 0, none⟩ u1).setCell ⟨w.heap.size + 1 + 1, 1, none⟩ u2) (.leaf z) (tv z none 0 0) ∧ Below w.heap.size w ((w2.setCell ⟨w.heap.size + 1 + 1, 0, none⟩ u1).setCell ⟨w.heap.size + 1 + 1, 1, none⟩ u2)) := fun u1 u2 => HS2.out.fin (P := fun _ => False) (t := .leaf z) (x := tv z none 0 0) _ (by simp) ⟨none, 0, rfl⟩ _ _
      clear HS2 HF HC1 HC2 HHA HHB hz hjn1 hjn2
      go_wp2
      refine bodyPost_ret (v := tv z none 0 0) (by simp [results, Tryd.f45, go_sem, tv, c0, c1']) rfl ?_
      refine ⟨_, rfl, ?_, (HFIN.out _ _).2⟩
      rw [HJ.out]
      exact (HFIN.out _ _).1.more fun _ h => h.elim
    | false =>
      have hbl : bothLeaf a b = false := HBL2.out
      have hc1 := Lib.hid (HC1.out hbl)
      have hc2 := Lib.hid (HC2.out hbl)
      have HJ := Lib.hid (HJH.out hbl)
      have hcA := HHA.out w2 HS2.out.bel
      clear HC1 HC2 HJH HJL hbl HHA HBL2 REST
      go_wp2_with fail
      refine hcA.mono ?_
      rintro e w3 ⟨v1, v2, rfl, ht1, ht2, hb3⟩
      obtain ⟨A3, n3, c3, rfl⟩ := ht1.form
      obtain ⟨A4, n4, c4, rfl⟩ := ht2.form
      generalize (half1 a).N = o3 at *
      generalize (half2 a).N = o4 at *
      have hx3 := HS2.out.next hb3
      have hg3 : w.heap.size + 1 + 1 < w3.heap.size := by obtain ⟨_, _, ⟨k, _⟩, _⟩ := hx3.facts (w.heap.size + 1 + 1) (by simp); exact World.block_lt_of_cell? w3 _ k
      have hbx : Below w3.heap.size w3 ((w3.alloc (.cells #[.int .i64 o3, .slice A3 n3 c3] 24)).alloc (.cells #[.int .i64 o4, .slice A4 n4 c4] 24)) := ((Below.refl _ w3).alloc (Nat.le_refl _) _).alloc (by simp) _
      have HX3 := Lib.hid ((hx3.boxed (.int .i64 o3) (.slice A3 n3 c3) 24).boxed (.int .i64 o4) (.slice A4 n4 c4) 24)
      have HT1 := Lib.hid (ht1.stay hbx)
      have HT2 := Lib.hid (ht2.stay hbx)
      simp only [List.nil_append, List.cons_append, World.size_alloc] at HX3
      have g3 := HX3.out.at0
      simp only [List.mem_cons, List.not_mem_nil, or_false, forall_eq_or_imp, forall_eq] at g3
      clear hcA hb3 hx3 ht1 ht2 hbx HS2 p0 p1 p2 p3
      obtain ⟨p0, p1, p2, p3, p4, p5, p6, p7⟩ := g3
      have hcB := HHB.out _ HX3.out.bel
      clear HHB
      unfold tv
      go_wp2_with fail
      refine hcB.mono ?_
      rintro e w4 ⟨v3, v4, rfl, ht3, ht4, hb4⟩
      obtain ⟨A5, n5, c5, rfl⟩ := ht3.form
      obtain ⟨A6, n6, c6, rfl⟩ := ht4.form
      generalize (half1 b).N = o5 at *
      generalize (half2 b).N = o6 at *
      have hx4 := HX3.out.next hb4
      have hg4 : w.heap.size + 1 + 1 < w4.heap.size := by obtain ⟨_, _, ⟨k, _⟩, _⟩ := hx4.facts (w.heap.size + 1 + 1) (by simp); exact World.block_lt_of_cell? w4 _ k
      have hbx : Below w4.heap.size w4 ((w4.alloc (.cells #[.int .i64 o5, .slice A5 n5 c5] 24)).alloc (.cells #[.int .i64 o6, .slice A6 n6 c6] 24)) := ((Below.refl _ w4).alloc (Nat.le_refl _) _).alloc (by simp) _
      have HX4 := Lib.hid ((hx4.boxed (.int .i64 o5) (.slice A5 n5 c5) 24).boxed (.int .i64 o6) (.slice A6 n6 c6) 24)
      have HU1 := Lib.hid ((HT1.out.stay hb4).stay hbx)
      have HU2 := Lib.hid ((HT2.out.stay hb4).stay hbx)
      have HU3 := Lib.hid (ht3.stay hbx)
      have HU4 := Lib.hid (ht4.stay hbx)
      simp only [List.nil_append, List.cons_append, World.size_alloc] at HX4
      clear hcB hb4 hx4 ht3 ht4 hbx HX3 HT1 HT2 p0 p1 p2 p3 p4 p5 p6 p7
      unfold tv
      go_wp2
      have hXD := HX4.out.drew
      have hbD : Below ((w4.alloc (.cells #[.int .i64 o5, .slice A5 n5 c5] 24)).alloc (.cells #[.int .i64 o6, .slice A6 n6 c6] 24)).heap.size ((w4.alloc (.cells #[.int .i64 o5, .slice A5 n5 c5] 24)).alloc (.cells #[.int .i64 o6, .slice A6 n6 c6] 24)) ((w4.alloc (.cells #[.int .i64 o5, .slice A5 n5 c5] 24)).alloc (.cells #[.int .i64 o6, .slice A6 n6 c6] 24)).drew := (Below.refl _ _).drew
      have HV1 := Lib.hid (HU1.out.stay hbD)
      have HV2 := Lib.hid (HU2.out.stay hbD)
      have HV3 := Lib.hid (HU3.out.stay hbD)
      have HV4 := Lib.hid (HU4.out.stay hbD)
      clear HX4 HU1 HU2 HU3 HU4 hbD HF
      obtain ⟨q3, hq3⟩ : ∃ q, w3.heap.size = q := ⟨_, rfl⟩
      obtain ⟨q4, hq4⟩ : ∃ q, w4.heap.size = q := ⟨_, rfl⟩
      rw [hq3, hq4] at hXD ⊢
      rw [hq3] at hg3
      rw [hq4] at hg4
      have hXE : XS w [(q3, 0, .int .i64 o3), (q3, 1, .slice A3 n3 c3), (q3 + 1, 0, .int .i64 o4), (q3 + 1, 1, .slice A4 n4 c4), (q4, 0, .int .i64 o5), (q4, 1, .slice A5 n5 c5), (q4 + 1, 0, .int .i64 o6), (q4 + 1, 1, .slice A6 n6 c6)] [w.heap.size + 1 + 1] ((w4.alloc (.cells #[.int .i64 o5, .slice A5 n5 c5] 24)).alloc (.cells #[.int .i64 o6, .slice A6 n6 c6] 24)).drew := hXD.sub (by simp) (by simp)
      clear hXD
      refine wp_region_held_drew (S := fun W => XS w [(q3, 0, .int .i64 o3), (q3, 1, .slice A3 n3 c3), (q3 + 1, 0, .int .i64 o4), (q3 + 1, 1, .slice A4 n4 c4), (q4, 0, .int .i64 o5), (q4, 1, .slice A5 n5 c5), (q4 + 1, 0, .int .i64 o6), (q4 + 1, 1, .slice A6 n6 c6)] [w.heap.size + 1 + 1] W) (by kernel_rfl) hXE (fun hS => ?_)
      clear hXE
      generalize ((w4.alloc (.cells #[.int .i64 o5, .slice A5 n5 c5] 24)).alloc (.cells #[.int .i64 o6, .slice A6 n6 c6] 24)).drew = wd2 at hS HV1 HV2 HV3 HV4 ⊢
      clear hq3 hq4
      have HF : Hid (∀ W, XS w [(q3, 0, .int .i64 o3), (q3, 1, .slice A3 n3 c3), (q3 + 1, 0, .int .i64 o4), (q3 + 1, 1, .slice A4 n4 c4), (q4, 0, .int .i64 o5), (q4, 1, .slice A5 n5 c5), (q4 + 1, 0, .int .i64 o6), (q4 + 1, 1, .slice A6 n6 c6)] [w.heap.size + 1 + 1] W → W.cell? ⟨q3, 0, none⟩ = some (.int .i64 o3) ∧ W.cell? ⟨q3, 1, none⟩ = some (.slice A3 n3 c3) ∧ W.cell? ⟨q3 + 1, 0, none⟩ = some (.int .i64 o4) ∧ W.cell? ⟨q3 + 1, 1, none⟩ = some (.slice A4 n4 c4) ∧ W.cell? ⟨q4, 0, none⟩ = some (.int .i64 o5) ∧ W.cell? ⟨q4, 1, none⟩ = some (.slice A5 n5 c5) ∧ W.cell? ⟨q4 + 1, 0, none⟩ = some (.int .i64 o6) ∧ W.cell? ⟨q4 + 1, 1, none⟩ = some (.slice A6 n6 c6)) := fun W hW => ⟨hW.get (by simp), hW.get (by simp), hW.get (by simp), hW.get (by simp), hW.get (by simp), hW.get (by simp), hW.get (by simp), hW.get (by simp)⟩
      refine wpAnyH_take (i := 0) (v := ?_) rfl (by kernel_rfl) (by kernel_rfl) (by kernel_rfl) (fun _ _ _ h => h) (Or.inl ⟨by kernel_rfl, fun W hW => ?_⟩) hS ?_
      rotate_left
      · obtain ⟨f0, f1, f2, f3, f4, f5, f6, f7⟩ := HF.out W hW
        first | (go_simp; done) | (go_simp; with_reducible rfl)
      refine wpAnyH_take (i := 1) (v := ?_) rfl (by kernel_rfl) (by kernel_rfl) (by kernel_rfl) (fun _ _ _ h => h) (Or.inl ⟨by kernel_rfl, fun W hW => ?_⟩) hS ?_
      rotate_left
      · obtain ⟨f0, f1, f2, f3, f4, f5, f6, f7⟩ := HF.out W hW
        first | (go_simp; done) | (go_simp; with_reducible rfl)
      refine wpAnyH_take (i := 2) (v := ?_) rfl (by kernel_rfl) (by kernel_rfl) (by kernel_rfl) (fun _ _ _ h => h) (Yields.yieldsIf (Or.inl ⟨by kernel_rfl, ?_⟩)) hS ?_
      rotate_left
      · first | (intro w; go_simp; done) | (intro w; go_simp; with_reducible rfl)
      refine wpAnyH_take (i := 3) (v := ?_) rfl (by kernel_rfl) (by kernel_rfl) (by kernel_rfl) (fun _ _ _ h => h) (Yields.yieldsIf (Or.inl ⟨by kernel_rfl, ?_⟩)) hS ?_
      rotate_left
      · first | (intro w; go_simp; done) | (intro w; go_simp; with_reducible rfl)
      refine wpAnyH_take (i := 5) (v := ?_) rfl (by kernel_rfl) (by kernel_rfl) (by kernel_rfl) (fun _ _ _ h => h) (Or.inl ⟨by kernel_rfl, fun W hW => ?_⟩) hS ?_
      rotate_left
      · obtain ⟨f0, f1, f2, f3, f4, f5, f6, f7⟩ := HF.out W hW
        first | (go_simp; done) | (go_simp; with_reducible rfl)
      refine wpAnyH_take (i := 6) (v := ?_) rfl (by kernel_rfl) (by kernel_rfl) (by kernel_rfl) (fun _ _ _ h => h) (Or.inl ⟨by kernel_rfl, fun W hW => ?_⟩) hS ?_
      rotate_left
      · obtain ⟨f0, f1, f2, f3, f4, f5, f6, f7⟩ := HF.out W hW
        first | (go_simp; done) | (go_simp; with_reducible rfl)
      refine wpAnyH_take (i := 7) (v := ?_) rfl (by kernel_rfl) (by kernel_rfl) (by kernel_rfl) (fun _ _ _ h => h) (Yields.yieldsIf (Or.inl ⟨by kernel_rfl, ?_⟩)) hS ?_
      rotate_left
      · first | (intro w; go_simp; done) | (intro w; go_simp; with_reducible rfl)
      refine wpAnyH_take (i := 8) (v := ?_) rfl (by kernel_rfl) (by kernel_rfl) (by kernel_rfl) (fun _ _ _ h => h) (Yields.yieldsIf (Or.inl ⟨by kernel_rfl, ?_⟩)) hS ?_
      rotate_left
      · first | (intro w; go_simp; done) | (intro w; go_simp; with_reducible rfl)
      refine wpAnyH_ready (rs := [4]) (by kernel_rfl) (by simp) ?_
      refine AllReadyH.cons rfl (fun K hK => ?_) AllReadyH.nil
      go_simp
      go_wp2_with (go_at_call 45; refine (hc1.out _ _ _ HV1.out HV3.out).mono ?_; rintro e w5 ⟨v5, rfl, ht5, hb5⟩)
      have hS3 := hS.next hb5
      have HT5 : Hid (InP (New w w5) w5 (Tr.join (half1 a) (half1 b) (x + o1) (y + o2)) v5) := ht5.more fun b hb => ⟨Nat.le_trans hS.bel.size hb.1, hb.2⟩
      have HW2 := Lib.hid (HV2.out.stay hb5)
      have HW4 := Lib.hid (HV4.out.stay hb5)
      clear hb5 ht5 hS HV1 HV2 HV3 HV4 hc1
      refine hK.out _ _ hS3 (fun hS => ?_)
      clear hK K hS3
      refine wpAnyH_ready (rs := [9]) (by kernel_rfl) (by simp) ?_
      refine AllReadyH.cons rfl (fun K hK => ?_) AllReadyH.nil
      go_simp
      go_wp2_with (go_at_call 45; refine (hc2.out _ _ _ HW2.out HW4.out).mono ?_; rintro e w6 ⟨v6, rfl, ht6, hb6⟩)
      have hS3 := hS.next hb6
      have HT7 : Hid (InP (New w w6) w6 (Tr.join (half1 a) (half1 b) (x + o1) (y + o2)) v5) := (HT5.out.stay hb6).more fun b hb => ⟨hb.1, Nat.lt_of_lt_of_le hb.2 hb6.size⟩
      have HT8 : Hid (InP (New w w6) w6 (Tr.join (half2 a) (half2 b) (x + o1) (y + o2)) v6) := ht6.more fun b hb => ⟨Nat.le_trans hS.bel.size hb.1, hb.2⟩
      clear hb6 ht6 hS HT5 HW2 HW4 hc2
      refine hK.out _ _ hS3 (fun hS => ?_)
      clear hK K hS3
      refine wpAnyH_ready (rs := [10]) (by kernel_rfl) (by simp) ?_
      refine AllReadyH.cons rfl (fun K hK => ?_) AllReadyH.nil
      go_simp
      go_wp2_with (go_at_call 69; refine (raise_any 0 _ _ _ _ _ HT7.out HT8.out (by omega) hjn1.out.1 hjn1.out.2 hjn2.out.1 hjn2.out.2 (by have := hjn1.out; omega)).mono ?_; rintro e w7 ⟨v7, rfl, ht7, hb7⟩)
      have hS3 := hS.next hb7
      have HT9 : Hid (InP (New w w7) w7 (Tr.join a b x y) v7) := by
        show InP _ _ _ _
        rw [HJ.out]
        exact ht7.more fun b hb => by
          rcases hb with hb | hb
          · exact ⟨hb.1, Nat.lt_of_lt_of_le hb.2 hb7.size⟩
          · exact ⟨Nat.le_trans hS.bel.size hb.1, hb.2⟩
      clear hb7 ht7 hS HT7 HT8 hjn1 hjn2 HJ
      refine hK.out _ _ hS3 (fun hS => ?_)
      clear hK K hS3
      obtain ⟨A7, n7, c7, rfl⟩ := HT9.out.form
      have HS := Lib.hid hS
      obtain ⟨u0, u1, ⟨c0, c1'⟩, f0, f1⟩ := hS.facts (w.heap.size + 1 + 1) (by simp)
      have HFIN : Hid (∀ u1 u2, InP (New w w7) ((w7.setCell ⟨w.heap.size + 1 + 1, 0, none⟩ u1).setCell ⟨w.heap.size + 1 + 1, 1, none⟩ u2) (Tr.join a b x y) (tv (Tr.join a b x y).N A7 n7 c7) ∧ Below w.heap.size w ((w7.setCell ⟨w.heap.size + 1 + 1, 0, none⟩ u1).setCell ⟨w.heap.size + 1 + 1, 1, none⟩ u2)) := fun u1 u2 => hS.fin (w.heap.size + 1 + 1) (by simp) HT9.out _ _
      obtain ⟨z, hz⟩ : ∃ z, (Tr.join a b x y).N = z := ⟨_, rfl⟩
      rw [hz] at HFIN ⊢
      clear HT9 hz hS HF
      unfold tv
      refine wpAnyH_ready (rs := [11]) (by kernel_rfl) (by simp) ?_
      refine AllReadyH.cons rfl (fun K hK => ?_) AllReadyH.nil
      go_simp
      go_wp2
      refine hK.out _ _ ((HS.out.store (w.heap.size + 1 + 1) 0 _ (by simp) (by simp <;> omega)).store (w.heap.size + 1 + 1) 1 _ (by simp) (by simp <;> omega)) (fun _ => ?_)
      clear hK K HS
      refine wpAnyH_done (by kernel_rfl) ?_ _
      go_wp2
      refine bodyPost_ret (v := tv z A7 n7 c7) (by simp [results, Tryd.f45, go_sem, tv, c0, c1']) rfl ?_
      refine ⟨_, rfl, ?_, (HFIN.out _ _).2⟩
      exact (HFIN.out _ _).1.more fun b hb => ⟨hb.1, by rw [size_set, size_set]; exact hb.2⟩
  | false =>
    clear hl2
    have hbl : bothLeaf a b = false := HBL2.out
    have hc1 := Lib.hid (HC1.out hbl)
    have hc2 := Lib.hid (HC2.out hbl)
    have HJ := Lib.hid (HJH.out hbl)
    have hcA := HHA.out w1 HS1.out.bel
    clear HC1 HC2 HJH HJL hbl HHA HBL2 REST
    go_wp2_with fail
    refine hcA.mono ?_
    rintro e w3 ⟨v1, v2, rfl, ht1, ht2, hb3⟩
    obtain ⟨A3, n3, c3, rfl⟩ := ht1.form
    obtain ⟨A4, n4, c4, rfl⟩ := ht2.form
    generalize (half1 a).N = o3 at *
    generalize (half2 a).N = o4 at *
    have hx3 := HS1.out.next hb3
    have hg3 : w.heap.size + 1 + 1 < w3.heap.size := by obtain ⟨_, _, ⟨k, _⟩, _⟩ := hx3.facts (w.heap.size + 1 + 1) (by simp); exact World.block_lt_of_cell? w3 _ k
    have hbx : Below w3.heap.size w3 ((w3.alloc (.cells #[.int .i64 o3, .slice A3 n3 c3] 24)).alloc (.cells #[.int .i64 o4, .slice A4 n4 c4] 24)) := ((Below.refl _ w3).alloc (Nat.le_refl _) _).alloc (by simp) _
    have HX3 := Lib.hid ((hx3.boxed (.int .i64 o3) (.slice A3 n3 c3) 24).boxed (.int .i64 o4) (.slice A4 n4 c4) 24)
    have HT1 := Lib.hid (ht1.stay hbx)
    have HT2 := Lib.hid (ht2.stay hbx)
    simp only [List.nil_append, List.cons_append, World.size_alloc] at HX3
    have g3 := HX3.out.at0
    simp only [List.mem_cons, List.not_mem_nil, or_false, forall_eq_or_imp, forall_eq] at g3
    clear hcA hb3 hx3 ht1 ht2 hbx HS1 p0 p1 p2 p3
    obtain ⟨p0, p1, p2, p3, p4, p5, p6, p7⟩ := g3
    have hcB := HHB.out _ HX3.out.bel
    clear HHB
    unfold tv
    go_wp2_with fail
    refine hcB.mono ?_
    rintro e w4 ⟨v3, v4, rfl, ht3, ht4, hb4⟩
    obtain ⟨A5, n5, c5, rfl⟩ := ht3.form
    obtain ⟨A6, n6, c6, rfl⟩ := ht4.form
    generalize (half1 b).N = o5 at *
    generalize (half2 b).N = o6 at *
    have hx4 := HX3.out.next hb4
    have hg4 : w.heap.size + 1 + 1 < w4.heap.size := by obtain ⟨_, _, ⟨k, _⟩, _⟩ := hx4.facts (w.heap.size + 1 + 1) (by simp); exact World.block_lt_of_cell? w4 _ k
    have hbx : Below w4.heap.size w4 ((w4.alloc (.cells #[.int .i64 o5, .slice A5 n5 c5] 24)).alloc (.cells #[.int .i64 o6, .slice A6 n6 c6] 24)) := ((Below.refl _ w4).alloc (Nat.le_refl _) _).alloc (by simp) _
    have HX4 := Lib.hid ((hx4.boxed (.int .i64 o5) (.slice A5 n5 c5) 24).boxed (.int .i64 o6) (.slice A6 n6 c6) 24)
    have HU1 := Lib.hid ((HT1.out.stay hb4).stay hbx)
    have HU2 := Lib.hid ((HT2.out.stay hb4).stay hbx)
    have HU3 := Lib.hid (ht3.stay hbx)
    have HU4 := Lib.hid (ht4.stay hbx)
    simp only [List.nil_append, List.cons_append, World.size_alloc] at HX4
    clear hcB hb4 hx4 ht3 ht4 hbx HX3 HT1 HT2 p0 p1 p2 p3 p4 p5 p6 p7
    unfold tv
    go_wp2
    have hXD := HX4.out.drew
    have hbD : Below ((w4.alloc (.cells #[.int .i64 o5, .slice A5 n5 c5] 24)).alloc (.cells #[.int .i64 o6, .slice A6 n6 c6] 24)).heap.size ((w4.alloc (.cells #[.int .i64 o5, .slice A5 n5 c5] 24)).alloc (.cells #[.int .i64 o6, .slice A6 n6 c6] 24)) ((w4.alloc (.cells #[.int .i64 o5, .slice A5 n5 c5] 24)).alloc (.cells #[.int .i64 o6, .slice A6 n6 c6] 24)).drew := (Below.refl _ _).drew
    have HV1 := Lib.hid (HU1.out.stay hbD)
    have HV2 := Lib.hid (HU2.out.stay hbD)
    have HV3 := Lib.hid (HU3.out.stay hbD)
    have HV4 := Lib.hid (HU4.out.stay hbD)
    clear HX4 HU1 HU2 HU3 HU4 hbD HF
    obtain ⟨q3, hq3⟩ : ∃ q, w3.heap.size = q := ⟨_, rfl⟩
    obtain ⟨q4, hq4⟩ : ∃ q, w4.heap.size = q := ⟨_, rfl⟩
    rw [hq3, hq4] at hXD ⊢
    rw [hq3] at hg3
    rw [hq4] at hg4
    have hXE : XS w [(q3, 0, .int .i64 o3), (q3, 1, .slice A3 n3 c3), (q3 + 1, 0, .int .i64 o4), (q3 + 1, 1, .slice A4 n4 c4), (q4, 0, .int .i64 o5), (q4, 1, .slice A5 n5 c5), (q4 + 1, 0, .int .i64 o6), (q4 + 1, 1, .slice A6 n6 c6)] [w.heap.size + 1 + 1] ((w4.alloc (.cells #[.int .i64 o5, .slice A5 n5 c5] 24)).alloc (.cells #[.int .i64 o6, .slice A6 n6 c6] 24)).drew := hXD.sub (by simp) (by simp)
    clear hXD
    refine wp_region_held_drew (S := fun W => XS w [(q3, 0, .int .i64 o3), (q3, 1, .slice A3 n3 c3), (q3 + 1, 0, .int .i64 o4), (q3 + 1, 1, .slice A4 n4 c4), (q4, 0, .int .i64 o5), (q4, 1, .slice A5 n5 c5), (q4 + 1, 0, .int .i64 o6), (q4 + 1, 1, .slice A6 n6 c6)] [w.heap.size + 1 + 1] W) (by kernel_rfl) hXE (fun hS => ?_)
    clear hXE
    generalize ((w4.alloc (.cells #[.int .i64 o5, .slice A5 n5 c5] 24)).alloc (.cells #[.int .i64 o6, .slice A6 n6 c6] 24)).drew = wd2 at hS HV1 HV2 HV3 HV4 ⊢
    clear hq3 hq4
    have HF : Hid (∀ W, XS w [(q3, 0, .int .i64 o3), (q3, 1, .slice A3 n3 c3), (q3 + 1, 0, .int .i64 o4), (q3 + 1, 1, .slice A4 n4 c4), (q4, 0, .int .i64 o5), (q4, 1, .slice A5 n5 c5), (q4 + 1, 0, .int .i64 o6), (q4 + 1, 1, .slice A6 n6 c6)] [w.heap.size + 1 + 1] W → W.cell? ⟨q3, 0, none⟩ = some (.int .i64 o3) ∧ W.cell? ⟨q3, 1, none⟩ = some (.slice A3 n3 c3) ∧ W.cell? ⟨q3 + 1, 0, none⟩ = some (.int .i64 o4) ∧ W.cell? ⟨q3 + 1, 1, none⟩ = some (.slice A4 n4 c4) ∧ W.cell? ⟨q4, 0, none⟩ = some (.int .i64 o5) ∧ W.cell? ⟨q4, 1, none⟩ = some (.slice A5 n5 c5) ∧ W.cell? ⟨q4 + 1, 0, none⟩ = some (.int .i64 o6) ∧ W.cell? ⟨q4 + 1, 1, none⟩ = some (.slice A6 n6 c6)) := fun W hW => ⟨hW.get (by simp), hW.get (by simp), hW.get (by simp), hW.get (by simp), hW.get (by simp), hW.get (by simp), hW.get (by simp), hW.get (by simp)⟩
    refine wpAnyH_take (i := 0) (v := ?_) rfl (by kernel_rfl) (by kernel_rfl) (by kernel_rfl) (fun _ _ _ h => h) (Or.inl ⟨by kernel_rfl, fun W hW => ?_⟩) hS ?_
    rotate_left
    · obtain ⟨f0, f1, f2, f3, f4, f5, f6, f7⟩ := HF.out W hW
      first | (go_simp; done) | (go_simp; with_reducible rfl)
    refine wpAnyH_take (i := 1) (v := ?_) rfl (by kernel_rfl) (by kernel_rfl) (by kernel_rfl) (fun _ _ _ h => h) (Or.inl ⟨by kernel_rfl, fun W hW => ?_⟩) hS ?_
    rotate_left
    · obtain ⟨f0, f1, f2, f3, f4, f5, f6, f7⟩ := HF.out W hW
      first | (go_simp; done) | (go_simp; with_reducible rfl)
    refine wpAnyH_take (i := 2) (v := ?_) rfl (by kernel_rfl) (by kernel_rfl) (by kernel_rfl) (fun _ _ _ h => h) (Yields.yieldsIf (Or.inl ⟨by kernel_rfl, ?_⟩)) hS ?_
    rotate_left
    · first | (intro w; go_simp; done) | (intro w; go_simp; with_reducible rfl)
    refine wpAnyH_take (i := 3) (v := ?_) rfl (by kernel_rfl) (by kernel_rfl) (by kernel_rfl) (fun _ _ _ h => h) (Yields.yieldsIf (Or.inl ⟨by kernel_rfl, ?_⟩)) hS ?_
    rotate_left
    · first | (intro w; go_simp; done) | (intro w; go_simp; with_reducible rfl)
    refine wpAnyH_take (i := 5) (v := ?_) rfl (by kernel_rfl) (by kernel_rfl) (by kernel_rfl) (fun _ _ _ h => h) (Or.inl ⟨by kernel_rfl, fun W hW => ?_⟩) hS ?_
    rotate_left
    · obtain ⟨f0, f1, f2, f3, f4, f5, f6, f7⟩ := HF.out W hW
      first | (go_simp; done) | (go_simp; with_reducible rfl)
    refine wpAnyH_take (i := 6) (v := ?_) rfl (by kernel_rfl) (by kernel_rfl) (by kernel_rfl) (fun _ _ _ h => h) (Or.inl ⟨by kernel_rfl, fun W hW => ?_⟩) hS ?_
    rotate_left
    · obtain ⟨f0, f1, f2, f3, f4, f5, f6, f7⟩ := HF.out W hW
      first | (go_simp; done) | (go_simp; with_reducible rfl)
    refine wpAnyH_take (i := 7) (v := ?_) rfl (by kernel_rfl) (by kernel_rfl) (by kernel_rfl) (fun _ _ _ h => h) (Yields.yieldsIf (Or.inl ⟨by kernel_rfl, ?_⟩)) hS ?_
    rotate_left
    · first | (intro w; go_simp; done) | (intro w; go_simp; with_reducible rfl)
    refine wpAnyH_take (i := 8) (v := ?_) rfl (by kernel_rfl) (by kernel_rfl) (by kernel_rfl) (fun _ _ _ h => h) (Yields.yieldsIf (Or.inl ⟨by kernel_rfl, ?_⟩)) hS ?_
    rotate_left
    · first | (intro w; go_simp; done) | (intro w; go_simp; with_reducible rfl)
    refine wpAnyH_ready (rs := [4]) (by kernel_rfl) (by simp) ?_
    refine AllReadyH.cons rfl (fun K hK => ?_) AllReadyH.nil
    go_simp
    go_wp2_with (go_at_call 45; refine (hc1.out _ _ _ HV1.out HV3.out).mono ?_; rintro e w5 ⟨v5, rfl, ht5, hb5⟩)
    have hS3 := hS.next hb5
    have HT5 : Hid (InP (New w w5) w5 (Tr.join (half1 a) (half1 b) (x + o1) (y + o2)) v5) := ht5.more fun b hb => ⟨Nat.le_trans hS.bel.size hb.1, hb.2⟩
    have HW2 := Lib.hid (HV2.out.stay hb5)
    have HW4 := Lib.hid (HV4.out.stay hb5)
    clear hb5 ht5 hS HV1 HV2 HV3 HV4 hc1
    refine hK.out _ _ hS3 (fun hS => ?_)
    clear hK K hS3
    refine wpAnyH_ready (rs := [9]) (by kernel_rfl) (by simp) ?_
    refine AllReadyH.cons rfl (fun K hK => ?_) AllReadyH.nil
    go_simp
    go_wp2_with (go_at_call 45; refine (hc2.out _ _ _ HW2.out HW4.out).mono ?_; rintro e w6 ⟨v6, rfl, ht6, hb6⟩)
    have hS3 := hS.next hb6
    have HT7 : Hid (InP (New w w6) w6 (Tr.join (half1 a) (half1 b) (x + o1) (y + o2)) v5) := (HT5.out.stay hb6).more fun b hb => ⟨hb.1, Nat.lt_of_lt_of_le hb.2 hb6.size⟩
    have HT8 : Hid (InP (New w w6) w6 (Tr.join (half2 a) (half2 b) (x + o1) (y + o2)) v6) := ht6.more fun b hb => ⟨Nat.le_trans hS.bel.size hb.1, hb.2⟩
    clear hb6 ht6 hS HT5 HW2 HW4 hc2
    refine hK.out _ _ hS3 (fun hS => ?_)
    clear hK K hS3
    refine wpAnyH_ready (rs := [10]) (by kernel_rfl) (by simp) ?_
    refine AllReadyH.cons rfl (fun K hK => ?_) AllReadyH.nil
    go_simp
    go_wp2_with (go_at_call 69; refine (raise_any 0 _ _ _ _ _ HT7.out HT8.out (by omega) hjn1.out.1 hjn1.out.2 hjn2.out.1 hjn2.out.2 (by have := hjn1.out; omega)).mono ?_; rintro e w7 ⟨v7, rfl, ht7, hb7⟩)
    have hS3 := hS.next hb7
    have HT9 : Hid (InP (New w w7) w7 (Tr.join a b x y) v7) := by
      show InP _ _ _ _
      rw [HJ.out]
      exact ht7.more fun b hb => by
        rcases hb with hb | hb
        · exact ⟨hb.1, Nat.lt_of_lt_of_le hb.2 hb7.size⟩
        · exact ⟨Nat.le_trans hS.bel.size hb.1, hb.2⟩
    clear hb7 ht7 hS HT7 HT8 hjn1 hjn2 HJ
    refine hK.out _ _ hS3 (fun hS => ?_)
    clear hK K hS3
    obtain ⟨A7, n7, c7, rfl⟩ := HT9.out.form
    have HS := Lib.hid hS
    obtain ⟨u0, u1, ⟨c0, c1'⟩, f0, f1⟩ := hS.facts (w.heap.size + 1 + 1) (by simp)
    have HFIN : Hid (∀ u1 u2, InP (New w w7) ((w7.setCell ⟨w.heap.size + 1 + 1, 0, none⟩ u1).setCell ⟨w.heap.size + 1 + 1, 1, none⟩ u2) (Tr.join a b x y) (tv (Tr.join a b x y).N A7 n7 c7) ∧ Below w.heap.size w ((w7.setCell ⟨w.heap.size + 1 + 1, 0, none⟩ u1).setCell ⟨w.heap.size + 1 + 1, 1, none⟩ u2)) := fun u1 u2 => hS.fin (w.heap.size + 1 + 1) (by simp) HT9.out _ _
    obtain ⟨z, hz⟩ : ∃ z, (Tr.join a b x y).N = z := ⟨_, rfl⟩
    rw [hz] at HFIN ⊢
    clear HT9 hz hS HF
    unfold tv
    refine wpAnyH_ready (rs := [11]) (by kernel_rfl) (by simp) ?_
    refine AllReadyH.cons rfl (fun K hK => ?_) AllReadyH.nil
    go_simp
    go_wp2
    refine hK.out _ _ ((HS.out.store (w.heap.size + 1 + 1) 0 _ (by simp) (by simp <;> omega)).store (w.heap.size + 1 + 1) 1 _ (by simp) (by simp <;> omega)) (fun _ => ?_)
    clear hK K HS
    refine wpAnyH_done (by kernel_rfl) ?_ _
    go_wp2
    refine bodyPost_ret (v := tv z A7 n7 c7) (by simp [results, Tryd.f45, go_sem, tv, c0, c1']) rfl ?_
    refine ⟨_, rfl, ?_, (HFIN.out _ _).2⟩
    exact (HFIN.out _ _).1.more fun b hb => ⟨hb.1, by rw [size_set, size_set]; exact hb.2⟩
end Go.Proofs.YtflghlmikpfnpaaDoor.E
