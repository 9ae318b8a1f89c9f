/-
  The program's halves, join.
-/
import Derived.Test.YtoaglkjpjolacaaDoorCE2
import Derived.BigQuiet
namespace Go.Proofs.YtoaglkjpjolacaaDoor.E
open Go.RowKit
def half1 : Tr → Tr
  | .leaf _ => .leaf 0
  | .node _ l _ => l
def half2 : Tr → Tr
  | .leaf _ => .leaf 0
  | .node _ _ r => r
/-- Two trees are handed back, of the blocks of the one that came in. -/
def Halves (P : Nat → Prop) (t : Tr) (w : World) (e : Ending) (w' : World) : Prop := ∃ u v, e = .returned (.tuple #[u, v]) ∧ InP P w' (half1 t) u ∧ InP P w' (half2 t) v ∧ Below w.heap.size w w'
set_option maxRecDepth 100000 in
set_option maxHeartbeats 3200000 in
theorem halves_any (t : Tr) (P : Nat → Prop) (v : Value) (w : World) (h : InP P w t v) : Calls Tryd.prog 98 #[v] w (Halves P t w) := by
  cases t with
  | leaf o =>
    obtain ⟨A, c, rfl⟩ := h
    have HX := Lib.hid ((((XS.begin w).boxed (.int .i64 o) (.slice A 0 c) 27).fresh (.int .i64 0) (.slice none 0 0) 27).fresh (.int .i64 0) (.slice none 0 0) 27)
    simp only [List.nil_append, List.cons_append, World.size_alloc] at HX
    have hc := pleaf_any o A 0 c (((w.alloc (.cells #[.int .i64 o, .slice A 0 c] 27)).alloc (.cells #[.int .i64 0, .slice none 0 0] 27)).alloc (.cells #[.int .i64 0, .slice none 0 0] 27))
    unfold tv at hc ⊢
    go_enter Tryd.func98, Tryd.ntmps98
    go_wp2_with fail
    refine hc.mono ?_
    rintro e w1 ⟨rfl, hb1⟩
    have HX1 := Lib.hid (HX.out.next hb1)
    obtain ⟨u0, u1, ⟨c0, c1'⟩, f0, f1⟩ := HX1.out.facts (w.heap.size + 1) (by simp)
    obtain ⟨v0, v1, ⟨d0, d1'⟩, g0, g1⟩ := HX1.out.facts (w.heap.size + 1 + 1) (by simp)
    have HFIN : Hid (∀ u1 u2 u3 u4, Below w.heap.size w ((((w1.setCell ⟨w.heap.size + 1, 0, none⟩ u1).setCell ⟨w.heap.size + 1, 1, none⟩ u2).setCell ⟨w.heap.size + 1 + 1, 0, none⟩ u3).setCell ⟨w.heap.size + 1 + 1, 1, none⟩ u4)) := fun u1 u2 u3 u4 => ((((HX1.out.sub (bs' := []) (rs' := [w.heap.size + 1, w.heap.size + 1 + 1]) (by simp) (by simp)).store (w.heap.size + 1) 0 u1 (by simp) (by simp)).store (w.heap.size + 1) 1 u2 (by simp) (by simp)).store (w.heap.size + 1 + 1) 0 u3 (by simp) (by simp)).store (w.heap.size + 1 + 1) 1 u4 (by simp) (by simp) |>.bel
    clear hb1 hc HX HX1
    go_wp2
    refine bodyPost_ret (v := .tuple #[tv 0 none 0 0, tv 0 none 0 0]) (by simp [results, Tryd.f98, go_sem, tv, c0, c1', d0, d1']) rfl ?_
    exact ⟨_, _, rfl, zero_in _ _, zero_in _ _, HFIN.out _ _ _ _⟩
  | node n x y =>
    obtain ⟨b, off, c, rfl, hb, ⟨o1, A1, n1, c1, e1, e2, e3⟩, ⟨o2, A2, n2, c2, g1, g2, g3⟩⟩ := h
    have hbs : b < w.heap.size := World.block_lt_of_cell? w _ e1
    have HX := Lib.hid ((((XS.begin w).boxed (.int .i64 n) (.slice (some ⟨b, off, none⟩) 2 c) 27).fresh (.int .i64 0) (.slice none 0 0) 27).fresh (.int .i64 0) (.slice none 0 0) 27)
    simp only [List.nil_append, List.cons_append, World.size_alloc] at HX
    have hc := pleaf_any n (some ⟨b, off, none⟩) 2 c (((w.alloc (.cells #[.int .i64 n, .slice (some ⟨b, off, none⟩) 2 c] 27)).alloc (.cells #[.int .i64 0, .slice none 0 0] 27)).alloc (.cells #[.int .i64 0, .slice none 0 0] 27))
    have HF : Hid (∀ W, XS w [(w.heap.size, 0, .int .i64 n), (w.heap.size, 1, .slice (some ⟨b, off, none⟩) 2 c)] [w.heap.size, w.heap.size + 1, w.heap.size + 1 + 1] W → W.cell? ⟨w.heap.size, 0, none⟩ = some (.int .i64 n) ∧ W.cell? ⟨w.heap.size, 1, none⟩ = some (.slice (some ⟨b, off, none⟩) 2 c) ∧ W.cell? ⟨b, off, none⟩ = some (.int .i64 o1) ∧ W.cell? ⟨b, off + 1, none⟩ = some (.slice A1 n1 c1) ∧ W.cell? ⟨b, off + 2, none⟩ = some (.int .i64 o2) ∧ W.cell? ⟨b, off + 2 + 1, none⟩ = some (.slice A2 n2 c2)) := fun W hW => by
      have low : ∀ i, W.cell? ⟨b, i, none⟩ = w.cell? ⟨b, i, none⟩ := fun i => hW.bel.cell hbs
      exact ⟨hW.get (by simp), hW.get (by simp), (low _).trans e1, (low _).trans e2, (low _).trans g1, (low _).trans g2⟩
    have HT1 := Lib.hid e3
    have HT2 := Lib.hid g3
    unfold tv at hc ⊢
    clear e1 e2 e3 g1 g2 g3
    go_enter Tryd.func98, Tryd.ntmps98
    go_wp2_with fail
    refine hc.mono ?_
    rintro e w1 ⟨rfl, hb1⟩
    have hXD := (HX.out.next hb1).drew
    clear hb1 hc HX
    go_wp2
    refine wp_region_held_drew (S := fun W => XS w [(w.heap.size, 0, .int .i64 n), (w.heap.size, 1, .slice (some ⟨b, off, none⟩) 2 c)] [w.heap.size, w.heap.size + 1, w.heap.size + 1 + 1] W) (by kernel_rfl) hXD (fun hS => ?_)
    clear hXD
    generalize w1.drew = wd at hS ⊢
    refine wpAnyH_take (i := 0) (v := ?_) rfl (by kernel_rfl) (by kernel_rfl) (by kernel_rfl) (fun _ _ _ h => h) (Yields.yieldsIf (Or.inl ⟨by kernel_rfl, ?_⟩)) hS ?_
    rotate_left
    · first | (intro w; go_simp; done) | (intro w; go_simp; with_reducible rfl)
    refine wpAnyH_take (i := 1) (v := ?_) rfl (by kernel_rfl) (by kernel_rfl) (by kernel_rfl) (fun _ _ _ h => h) (Or.inl ⟨by kernel_rfl, fun W hW => ?_⟩) hS ?_
    rotate_left
    · obtain ⟨f0, f1, f2, f3, f4, f5⟩ := HF.out W hW
      first | (go_simp; done) | (go_simp; with_reducible rfl)
    refine wpAnyH_take (i := 2) (v := ?_) rfl (by kernel_rfl) (by kernel_rfl) (by kernel_rfl) (fun _ _ _ h => h) (Yields.yieldsIf (Or.inl ⟨by kernel_rfl, ?_⟩)) hS ?_
    rotate_left
    · first | (intro w; go_simp; done) | (intro w; go_simp; with_reducible rfl)
    refine wpAnyH_take (i := 3) (v := ?_) rfl (by kernel_rfl) (by kernel_rfl) (by kernel_rfl) (fun _ _ _ h => h) (Or.inl ⟨by kernel_rfl, fun W hW => ?_⟩) hS ?_
    rotate_left
    · obtain ⟨f0, f1, f2, f3, f4, f5⟩ := HF.out W hW
      first | (go_simp; done) | (go_simp; with_reducible rfl)
    refine wpAnyH_take (i := 4) (v := ?_) rfl (by kernel_rfl) (by kernel_rfl) (by kernel_rfl) (fun _ _ _ h => h) (Yields.yieldsIf (Or.inl ⟨by kernel_rfl, ?_⟩)) hS ?_
    rotate_left
    · first | (intro w; go_simp; done) | (intro w; go_simp; with_reducible rfl)
    refine wpAnyH_take (i := 5) (v := ?_) rfl (by kernel_rfl) (by kernel_rfl) (by kernel_rfl) (fun _ _ _ h => h) (Or.inl ⟨by kernel_rfl, fun W hW => ?_⟩) hS ?_
    rotate_left
    · obtain ⟨f0, f1, f2, f3, f4, f5⟩ := HF.out W hW
      first | (go_simp; done) | (go_simp; with_reducible rfl)
    refine wpAnyH_take (i := 6) (v := ?_) rfl (by kernel_rfl) (by kernel_rfl) (by kernel_rfl) (fun _ _ _ h => h) (Yields.yieldsIf (Or.inl ⟨by kernel_rfl, ?_⟩)) hS ?_
    rotate_left
    · first | (intro w; go_simp; done) | (intro w; go_simp; with_reducible rfl)
    refine wpAnyH_take (i := 7) (v := ?_) rfl (by kernel_rfl) (by kernel_rfl) (by kernel_rfl) (fun _ _ _ h => h) (Or.inl ⟨by kernel_rfl, fun W hW => ?_⟩) hS ?_
    rotate_left
    · obtain ⟨f0, f1, f2, f3, f4, f5⟩ := HF.out W hW
      first | (go_simp; done) | (go_simp; with_reducible rfl)
    have HS := Lib.hid hS
    obtain ⟨u0, u1, ⟨c0, c1'⟩, f0, f1⟩ := hS.facts (w.heap.size + 1) (by simp)
    obtain ⟨v0, v1, ⟨d0, d1'⟩, g0, g1⟩ := hS.facts (w.heap.size + 1 + 1) (by simp)
    clear hS HF
    have HX1 : Hid (∀ u1 u2, XS w [(w.heap.size, 0, .int .i64 n), (w.heap.size, 1, .slice (some ⟨b, off, none⟩) 2 c)] [w.heap.size, w.heap.size + 1, w.heap.size + 1 + 1] ((wd.setCell ⟨w.heap.size + 1, 0, none⟩ u1).setCell ⟨w.heap.size + 1, 1, none⟩ u2)) := fun u1 u2 => (HS.out.store (w.heap.size + 1) 0 u1 (by simp) (by simp)).store (w.heap.size + 1) 1 u2 (by simp) (by simp)
    have HX2 : Hid (∀ u1 u2 u3 u4, XS w [(w.heap.size, 0, .int .i64 n), (w.heap.size, 1, .slice (some ⟨b, off, none⟩) 2 c)] [w.heap.size, w.heap.size + 1, w.heap.size + 1 + 1] ((((wd.setCell ⟨w.heap.size + 1, 0, none⟩ u1).setCell ⟨w.heap.size + 1, 1, none⟩ u2).setCell ⟨w.heap.size + 1 + 1, 0, none⟩ u3).setCell ⟨w.heap.size + 1 + 1, 1, none⟩ u4)) := fun u1 u2 u3 u4 => ((HX1.out u1 u2).store (w.heap.size + 1 + 1) 0 u3 (by simp) (by simp <;> omega)).store (w.heap.size + 1 + 1) 1 u4 (by simp) (by simp <;> omega)
    refine wpAnyH_ready (rs := [8]) (by kernel_rfl) (by simp) ?_
    refine AllReadyH.cons rfl (fun K hK => ?_) AllReadyH.nil
    go_simp
    go_wp2
    refine hK.out _ _ (HX1.out _ _) (fun _ => ?_)
    clear hK K
    refine wpAnyH_ready (rs := [9]) (by kernel_rfl) (by simp) ?_
    refine AllReadyH.cons rfl (fun K hK => ?_) AllReadyH.nil
    go_simp
    go_wp2
    refine hK.out _ _ (HX2.out _ _ _ _) (fun _ => ?_)
    clear hK K
    refine wpAnyH_done (by kernel_rfl) ?_ _
    go_wp2
    refine bodyPost_ret (v := .tuple #[tv o1 A1 n1 c1, tv o2 A2 n2 c2]) (by simp [results, Tryd.f98, go_sem, tv, c0, c1', d0, d1']) rfl ?_
    have hx := HX2.out (.int .i64 o1) (.slice A1 n1 c1) (.int .i64 o2) (.slice A2 n2 c2)
    exact ⟨_, _, rfl, HT1.out.stay hx.bel, HT2.out.stay hx.bel, hx.bel⟩
end Go.Proofs.YtoaglkjpjolacaaDoor.E
namespace Go.Proofs.YtoaglkjpjolacaaDoor.E
open Go.RowKit
def bothLeaf : Tr → Tr → Bool
  | .leaf _, .leaf _ => true
  | _, _ => false
theorem join_halves (a b : Tr) (x y : Int) (h : bothLeaf a b = false) : Tr.join a b x y = Tr.raise 0 (Tr.join (half1 a) (half1 b) (x + a.N) (y + b.N)) (Tr.join (half2 a) (half2 b) (x + a.N) (y + b.N)) := by
  cases a <;> cases b <;> first | (simp [bothLeaf] at h; done) | (rw [Tr.join]; rfl)
theorem join_leaves (a b : Tr) (x y : Int) (h : bothLeaf a b = true) : Tr.join a b x y = .leaf (max (x + a.N) (y + b.N)) := by
  cases a <;> cases b <;> first | (simp [bothLeaf] at h; done) | (rw [Tr.join]; rfl)
theorem half_okc {t : Tr} {m : Int} (h : t.okc m = true) : (half1 t).okc (m - t.N) = true ∧ (half2 t).okc (m - t.N) = true := by
  cases t with
  | leaf n => simp only [Tr.okc, decide_eq_true_eq] at h; simp [half1, half2, Tr.okc, Tr.N]; omega
  | node n l r => simp only [Tr.okc, Bool.and_eq_true_iff] at h; exact ⟨h.2.1, h.2.2⟩
theorem half_nodes (a b : Tr) (h : bothLeaf a b = false) : (half1 a).nodes + (half1 b).nodes < a.nodes + b.nodes ∧ (half2 a).nodes + (half2 b).nodes < a.nodes + b.nodes := by
  cases a <;> cases b <;> first | (simp [bothLeaf] at h; done) | (simp only [half1, half2, Tr.nodes]; omega)
theorem join_N {a b : Tr} {x y m : Int} (hx : 0 ≤ x) (ha : a.okc (m - x) = true) (hb : b.okc (m - y) = true) : 0 ≤ (Tr.join a b x y).N ∧ (Tr.join a b x y).N ≤ m := by
  obtain ⟨f, hf⟩ := (nf_join a b x y).low_at
  rw [← hf, den_join]
  have := okc_den a _ ha f
  have := okc_den b _ hb f
  omega
theorem leafy_both {P : Nat → Prop} {w : World} {a b : Tr} {o1 o2 : Int} {A1 A2 : Option Addr} {n1 n2 c1 c2 : Nat} (ha : InP P w a (tv o1 A1 n1 c1)) (hb : InP P w b (tv o2 A2 n2 c2)) : bothLeaf a b = (decide (n1 = 0) && decide (n2 = 0)) := by
  rcases ha.leafy with ⟨rfl, rfl⟩ | ⟨rfl, l, r, rfl⟩
  · rcases hb.leafy with ⟨rfl, rfl⟩ | ⟨rfl, l, r, rfl⟩ <;> simp [bothLeaf]
  · cases b <;> simp [bothLeaf]

set_option maxRecDepth 100000 in
set_option maxHeartbeats 6400000 in
theorem join_any (N : Nat) : ∀ (a b : Tr) (x y : Int) (P : Nat → Prop) (u v : Value) (w : World), a.nodes + b.nodes < N → InP P w a u → InP P w b v → 0 ≤ x → 0 ≤ y → x ≤ 4611686018427387904 → y ≤ 4611686018427387904 → a.okc (4611686018427387904 - x) = true → b.okc (4611686018427387904 - y) = true →
    Calls Tryd.prog 75 #[u, v, .int .i64 x, .int .i64 y] w (Trees (Tr.join a b x y) w) := by
  induction N with
  | zero => intro a b x y P u v w h; omega
  | succ N ih =>
  intro a b x y P u v w hN ha hb hx hy hx2 hy2 hoa hob
  obtain ⟨A1, n1, c1, rfl⟩ := ha.form
  obtain ⟨A2, n2, c2, rfl⟩ := hb.form
  have HBL := Lib.hid (leafy_both ha hb)
  have hna := okc_N _ _ hoa
  have hnb := okc_N _ _ hob
  have HJL := Lib.hid (join_leaves a b x y)
  have HJH := Lib.hid (join_halves a b x y)
  have HHN := Lib.hid (half_nodes a b)
  have hka := half_okc hoa
  have hkb := half_okc hob
  have hjn1 := Lib.hid (join_N (x := x + a.N) (y := y + b.N) (m := 4611686018427387904) (by omega) (by rw [show (4611686018427387904 : Int) - (x + a.N) = 4611686018427387904 - x - a.N by omega]; exact hka.1) (by rw [show (4611686018427387904 : Int) - (y + b.N) = 4611686018427387904 - y - b.N by omega]; exact hkb.1))
  have hjn2 := Lib.hid (join_N (x := x + a.N) (y := y + b.N) (m := 4611686018427387904) (by omega) (by rw [show (4611686018427387904 : Int) - (x + a.N) = 4611686018427387904 - x - a.N by omega]; exact hka.2) (by rw [show (4611686018427387904 : Int) - (y + b.N) = 4611686018427387904 - y - b.N by omega]; exact hkb.2))
  have HC1 : Hid (bothLeaf a b = false → ∀ W u v, InP P W (half1 a) u → InP P W (half1 b) v → Calls Tryd.prog 75 #[u, v, .int .i64 (x + a.N), .int .i64 (y + b.N)] W (Trees (Tr.join (half1 a) (half1 b) (x + a.N) (y + b.N)) W)) := fun hbl W u v hu hv => by
    have := HHN.out hbl
    refine ih _ _ _ _ P u v W (by omega) hu hv (by omega) (by omega) (by omega) (by omega) ?_ ?_
    · rw [show (4611686018427387904 : Int) - (x + a.N) = 4611686018427387904 - x - a.N by omega]; exact hka.1
    · rw [show (4611686018427387904 : Int) - (y + b.N) = 4611686018427387904 - y - b.N by omega]; exact hkb.1
  have HC2 : Hid (bothLeaf a b = false → ∀ W u v, InP P W (half2 a) u → InP P W (half2 b) v → Calls Tryd.prog 75 #[u, v, .int .i64 (x + a.N), .int .i64 (y + b.N)] W (Trees (Tr.join (half2 a) (half2 b) (x + a.N) (y + b.N)) W)) := fun hbl W u v hu hv => by
    have := HHN.out hbl
    refine ih _ _ _ _ P u v W (by omega) hu hv (by omega) (by omega) (by omega) (by omega) ?_ ?_
    · rw [show (4611686018427387904 : Int) - (x + a.N) = 4611686018427387904 - x - a.N by omega]; exact hka.2
    · rw [show (4611686018427387904 : Int) - (y + b.N) = 4611686018427387904 - y - b.N by omega]; exact hkb.2
  have HHA : Hid (∀ W, Below w.heap.size w W → Calls Tryd.prog 98 #[tv a.N A1 n1 c1] W (Halves P a W)) := fun W hW => halves_any a P _ W (ha.stay hW)
  have HHB : Hid (∀ W, Below w.heap.size w W → Calls Tryd.prog 98 #[tv b.N A2 n2 c2] W (Halves P b W)) := fun W hW => halves_any b P _ W (hb.stay hW)
  clear ih ha hb hoa hob hka hkb HHN hN
  generalize a.N = o1 at *
  generalize b.N = o2 at *
  unfold tv at *
  have HX := Lib.hid ((((XS.begin w).boxed (.int .i64 o1) (.slice A1 n1 c1) 27).boxed (.int .i64 o2) (.slice A2 n2 c2) 27).fresh (.int .i64 0) (.slice none 0 0) 27)
  simp only [List.nil_append, List.cons_append, World.size_alloc] at HX
  have HF : Hid (∀ W, XS w [(w.heap.size, 0, .int .i64 o1), (w.heap.size, 1, .slice A1 n1 c1), (w.heap.size + 1, 0, .int .i64 o2), (w.heap.size + 1, 1, .slice A2 n2 c2)] [w.heap.size, w.heap.size + 1, w.heap.size + 1 + 1] W → W.cell? ⟨w.heap.size, 0, none⟩ = some (.int .i64 o1) ∧ W.cell? ⟨w.heap.size, 1, none⟩ = some (.slice A1 n1 c1) ∧ W.cell? ⟨w.heap.size + 1, 0, none⟩ = some (.int .i64 o2) ∧ W.cell? ⟨w.heap.size + 1, 1, none⟩ = some (.slice A2 n2 c2)) := fun W hW => ⟨hW.get (by simp), hW.get (by simp), hW.get (by simp), hW.get (by simp)⟩
  have hw1 : IntKind.i64.wrap (x + o1) = x + o1 := wrap_id (by omega) (by omega)
  have hw2 : IntKind.i64.wrap (y + o2) = y + o2 := wrap_id (by omega) (by omega)
  go_enter Tryd.func75, Tryd.ntmps75
  go_wp2
  have hXD := HX.out.drew
  clear HX
  refine wp_region_held_drew (S := fun W => XS w [(w.heap.size, 0, .int .i64 o1), (w.heap.size, 1, .slice A1 n1 c1), (w.heap.size + 1, 0, .int .i64 o2), (w.heap.size + 1, 1, .slice A2 n2 c2)] [w.heap.size, w.heap.size + 1, w.heap.size + 1 + 1] W) (by kernel_rfl) hXD (fun hS => ?_)
  clear hXD
  generalize (((w.alloc (.cells #[.int .i64 o1, .slice A1 n1 c1] 27)).alloc (.cells #[.int .i64 o2, .slice A2 n2 c2] 27)).alloc (.cells #[.int .i64 0, .slice none 0 0] 27)).drew = wd at hS ⊢
  refine wpAnyH_take (i := 0) (v := ?_) rfl (by kernel_rfl) (by kernel_rfl) (by kernel_rfl) (fun _ _ _ h => h) (Yields.yieldsIf (Or.inl ⟨by kernel_rfl, ?_⟩)) hS ?_
  rotate_left
  · first | (intro w; go_simp; done) | (intro w; go_simp; with_reducible rfl)
  refine wpAnyH_take (i := 1) (v := ?_) rfl (by kernel_rfl) (by kernel_rfl) (by kernel_rfl) (fun _ _ _ h => h) (Yields.yieldsIf (Or.inl ⟨by kernel_rfl, ?_⟩)) hS ?_
  rotate_left
  · first | (intro w; go_simp; done) | (intro w; go_simp; with_reducible rfl)
  refine wpAnyH_take (i := 2) (v := ?_) rfl (by kernel_rfl) (by kernel_rfl) (by kernel_rfl) (fun _ _ _ h => h) (Or.inl ⟨by kernel_rfl, fun W hW => ?_⟩) hS ?_
  rotate_left
  · obtain ⟨f0, f1, f2, f3⟩ := HF.out W hW
    first | (go_simp; done) | (go_simp; with_reducible rfl)
  refine wpAnyH_take (i := 3) (v := ?_) rfl (by kernel_rfl) (by kernel_rfl) (by kernel_rfl) (fun _ _ _ h => h) (Yields.yieldsIf (Or.inl ⟨by kernel_rfl, ?_⟩)) hS ?_
  rotate_left
  · first | (intro w; go_simp; done) | (intro w; go_simp; with_reducible rfl)
  refine wpAnyH_take (i := 4) (v := ?_) rfl (by kernel_rfl) (by kernel_rfl) (by kernel_rfl) (fun _ _ _ h => h) (Yields.yieldsIf (Or.inl ⟨by kernel_rfl, ?_⟩)) hS ?_
  rotate_left
  · first | (intro w; go_simp; done) | (intro w; go_simp; with_reducible rfl)
  refine wpAnyH_take (i := 5) (v := ?_) rfl (by kernel_rfl) (by kernel_rfl) (by kernel_rfl) (fun _ _ _ h => h) (Yields.yieldsIf (Or.inl ⟨by kernel_rfl, ?_⟩)) hS ?_
  rotate_left
  · first | (intro w; go_simp; done) | (intro w; go_simp; with_reducible rfl)
  refine wpAnyH_take (i := 6) (v := ?_) rfl (by kernel_rfl) (by kernel_rfl) (by kernel_rfl) (fun _ _ _ h => h) (Or.inl ⟨by kernel_rfl, fun W hW => ?_⟩) hS ?_
  rotate_left
  · obtain ⟨f0, f1, f2, f3⟩ := HF.out W hW
    first | (go_simp; done) | (go_simp; with_reducible rfl)
  refine wpAnyH_take (i := 7) (v := ?_) rfl (by kernel_rfl) (by kernel_rfl) (by kernel_rfl) (fun _ _ _ h => h) (Yields.yieldsIf (Or.inl ⟨by kernel_rfl, ?_⟩)) hS ?_
  rotate_left
  · first | (intro w; go_simp; done) | (intro w; go_simp; with_reducible rfl)
  refine wpAnyH_take (i := 8) (v := ?_) rfl (by kernel_rfl) (by kernel_rfl) (by kernel_rfl) (fun _ _ _ h => h) (Yields.yieldsIf (Or.inl ⟨by kernel_rfl, ?_⟩)) hS ?_
  rotate_left
  · first | (intro w; go_simp; done) | (intro w; go_simp; with_reducible rfl)
  refine wpAnyH_take (i := 9) (v := ?_) rfl (by kernel_rfl) (by kernel_rfl) (by kernel_rfl) (fun _ _ _ h => h) (Yields.yieldsIf (Or.inl ⟨by kernel_rfl, ?_⟩)) hS ?_
  rotate_left
  · first | (intro w; go_simp; done) | (intro w; go_simp; with_reducible rfl)
  refine wpAnyH_done (by kernel_rfl) ?_ _
  have HS := Lib.hid hS
  obtain ⟨p0, p1, p2, p3⟩ := HF.out wd hS
  have hl1 := pleaf_any o1 A1 n1 c1 wd
  unfold tv at hl1
  obtain ⟨b1, hb1e⟩ : ∃ b1, decide (n1 = 0) = b1 := ⟨_, rfl⟩
  obtain ⟨b2, hb2e⟩ : ∃ b2, decide (n2 = 0) = b2 := ⟨_, rfl⟩
  have hl2 := fun W => pleaf_any o2 A2 n2 c2 W
  unfold tv at hl2
  rw [hb1e] at hl1
  rw [hb2e] at hl2
  have HBL2 : Hid (bothLeaf a b = (b1 && b2)) := by show _ = _; rw [← hb1e, ← hb2e]; exact HBL.out
  clear hS HBL hb1e hb2e
  go_wp2_with fail
  refine hl1.mono ?_
  rintro e w1 ⟨rfl, hb1⟩
  have HS1 := Lib.hid (HS.out.next hb1)
  clear HS hb1 hl1 p0 p1 p2 p3
  obtain ⟨p0, p1, p2, p3⟩ := HF.out w1 HS1.out
  have REST : Hid (∀ W, XS w [(w.heap.size, 0, .int .i64 o1), (w.heap.size, 1, .slice A1 n1 c1), (w.heap.size + 1, 0, .int .i64 o2), (w.heap.size + 1, 1, .slice A2 n2 c2)] [w.heap.size, w.heap.size + 1, w.heap.size + 1 + 1] W → bothLeaf a b = false → True) := fun _ _ _ => trivial
  cases b1 with
  | true =>
    go_wp2_with fail
    refine (hl2 w1).mono ?_
    rintro e w2 ⟨rfl, hb2⟩
    have HS2 := Lib.hid (HS1.out.next hb2)
    clear HS1 hb2 hl2 p0 p1 p2 p3
    obtain ⟨p0, p1, p2, p3⟩ := HF.out w2 HS2.out
    cases b2 with
    | true =>
      obtain ⟨u0, u1, ⟨c0, c1'⟩, f0, f1⟩ := HS2.out.facts (w.heap.size + 1 + 1) (by simp)
      have hmx : (if x + o1 < y + o2 then y + o2 else x + o1) = max (x + o1) (y + o2) := by omega
      obtain ⟨z, hz⟩ : ∃ z, max (x + o1) (y + o2) = z := ⟨_, rfl⟩
      rw [hz] at hmx
      have HJ : Hid (Tr.join a b x y = .leaf z) := (HJL.out HBL2.out).trans (by rw [hz])
      have HFIN : Hid (∀ u1 u2, InP (fun _ => False) ((w2.setCell ⟨w.heap.size + 1 + 1, 0, none⟩ u1).setCell ⟨w.heap.size + 1 + 1, 1, none⟩ u2) (.leaf z) (tv z none 0 0) ∧ Below w.heap.size w ((w2.setCell ⟨w.heap.size + 1 + 1, 0, none⟩ u1).setCell ⟨w.heap.size + 1 + 1, 1, none⟩ u2)) := fun u1 u2 => HS2.out.fin (P := fun _ => False) (t := .leaf z) (x := tv z none 0 0) _ (by simp) ⟨none, 0, rfl⟩ _ _
      clear HS2 HF HC1 HC2 HHA HHB hz hjn1 hjn2
      go_wp2
      refine bodyPost_ret (v := tv z none 0 0) (by simp [results, Tryd.f75, go_sem, tv, c0, c1']) rfl ?_
      refine ⟨_, rfl, ?_, (HFIN.out _ _).2⟩
      rw [HJ.out]
      exact (HFIN.out _ _).1.more fun _ h => h.elim
    | false =>
      have hbl : bothLeaf a b = false := HBL2.out
      have hc1 := Lib.hid (HC1.out hbl)
      have hc2 := Lib.hid (HC2.out hbl)
      have HJ := Lib.hid (HJH.out hbl)
      have hcA := HHA.out w2 HS2.out.bel
      clear HC1 HC2 HJH HJL hbl HHA HBL2 REST
      go_wp2_with fail
      refine hcA.mono ?_
      rintro e w3 ⟨v1, v2, rfl, ht1, ht2, hb3⟩
      obtain ⟨A3, n3, c3, rfl⟩ := ht1.form
      obtain ⟨A4, n4, c4, rfl⟩ := ht2.form
      generalize (half1 a).N = o3 at *
      generalize (half2 a).N = o4 at *
      have hx3 := HS2.out.next hb3
      have hg3 : w.heap.size + 1 + 1 < w3.heap.size := by obtain ⟨_, _, ⟨k, _⟩, _⟩ := hx3.facts (w.heap.size + 1 + 1) (by simp); exact World.block_lt_of_cell? w3 _ k
      have hbx : Below w3.heap.size w3 ((w3.alloc (.cells #[.int .i64 o3, .slice A3 n3 c3] 27)).alloc (.cells #[.int .i64 o4, .slice A4 n4 c4] 27)) := ((Below.refl _ w3).alloc (Nat.le_refl _) _).alloc (by simp) _
      have HX3 := Lib.hid ((hx3.boxed (.int .i64 o3) (.slice A3 n3 c3) 27).boxed (.int .i64 o4) (.slice A4 n4 c4) 27)
      have HT1 := Lib.hid (ht1.stay hbx)
      have HT2 := Lib.hid (ht2.stay hbx)
      simp only [List.nil_append, List.cons_append, World.size_alloc] at HX3
      have g3 := HX3.out.at0
      simp only [List.mem_cons, List.not_mem_nil, or_false, forall_eq_or_imp, forall_eq] at g3
      clear hcA hb3 hx3 ht1 ht2 hbx HS2 p0 p1 p2 p3
      obtain ⟨p0, p1, p2, p3, p4, p5, p6, p7⟩ := g3
      have hcB := HHB.out _ HX3.out.bel
      clear HHB
      unfold tv
      go_wp2_with fail
      refine hcB.mono ?_
      rintro e w4 ⟨v3, v4, rfl, ht3, ht4, hb4⟩
      obtain ⟨A5, n5, c5, rfl⟩ := ht3.form
      obtain ⟨A6, n6, c6, rfl⟩ := ht4.form
      generalize (half1 b).N = o5 at *
      generalize (half2 b).N = o6 at *
      have hx4 := HX3.out.next hb4
      have hg4 : w.heap.size + 1 + 1 < w4.heap.size := by obtain ⟨_, _, ⟨k, _⟩, _⟩ := hx4.facts (w.heap.size + 1 + 1) (by simp); exact World.block_lt_of_cell? w4 _ k
      have hbx : Below w4.heap.size w4 ((w4.alloc (.cells #[.int .i64 o5, .slice A5 n5 c5] 27)).alloc (.cells #[.int .i64 o6, .slice A6 n6 c6] 27)) := ((Below.refl _ w4).alloc (Nat.le_refl _) _).alloc (by simp) _
      have HX4 := Lib.hid ((hx4.boxed (.int .i64 o5) (.slice A5 n5 c5) 27).boxed (.int .i64 o6) (.slice A6 n6 c6) 27)
      have HU1 := Lib.hid ((HT1.out.stay hb4).stay hbx)
      have HU2 := Lib.hid ((HT2.out.stay hb4).stay hbx)
      have HU3 := Lib.hid (ht3.stay hbx)
      have HU4 := Lib.hid (ht4.stay hbx)
      simp only [List.nil_append, List.cons_append, World.size_alloc] at HX4
      clear hcB hb4 hx4 ht3 ht4 hbx HX3 HT1 HT2 p0 p1 p2 p3 p4 p5 p6 p7
      unfold tv
      go_wp2
      have hXD := HX4.out.drew
      have hbD : Below ((w4.alloc (.cells #[.int .i64 o5, .slice A5 n5 c5] 27)).alloc (.cells #[.int .i64 o6, .slice A6 n6 c6] 27)).heap.size ((w4.alloc (.cells #[.int .i64 o5, .slice A5 n5 c5] 27)).alloc (.cells #[.int .i64 o6, .slice A6 n6 c6] 27)) ((w4.alloc (.cells #[.int .i64 o5, .slice A5 n5 c5] 27)).alloc (.cells #[.int .i64 o6, .slice A6 n6 c6] 27)).drew := (Below.refl _ _).drew
      have HV1 := Lib.hid (HU1.out.stay hbD)
      have HV2 := Lib.hid (HU2.out.stay hbD)
      have HV3 := Lib.hid (HU3.out.stay hbD)
      have HV4 := Lib.hid (HU4.out.stay hbD)
      clear HX4 HU1 HU2 HU3 HU4 hbD HF
      obtain ⟨q3, hq3⟩ : ∃ q, w3.heap.size = q := ⟨_, rfl⟩
      obtain ⟨q4, hq4⟩ : ∃ q, w4.heap.size = q := ⟨_, rfl⟩
      rw [hq3, hq4] at hXD ⊢
      rw [hq3] at hg3
      rw [hq4] at hg4
      have hXE : XS w [(q3, 0, .int .i64 o3), (q3, 1, .slice A3 n3 c3), (q3 + 1, 0, .int .i64 o4), (q3 + 1, 1, .slice A4 n4 c4), (q4, 0, .int .i64 o5), (q4, 1, .slice A5 n5 c5), (q4 + 1, 0, .int .i64 o6), (q4 + 1, 1, .slice A6 n6 c6)] [w.heap.size + 1 + 1] ((w4.alloc (.cells #[.int .i64 o5, .slice A5 n5 c5] 27)).alloc (.cells #[.int .i64 o6, .slice A6 n6 c6] 27)).drew := hXD.sub (by simp) (by simp)
      clear hXD
      refine wp_region_held_drew (S := fun W => XS w [(q3, 0, .int .i64 o3), (q3, 1, .slice A3 n3 c3), (q3 + 1, 0, .int .i64 o4), (q3 + 1, 1, .slice A4 n4 c4), (q4, 0, .int .i64 o5), (q4, 1, .slice A5 n5 c5), (q4 + 1, 0, .int .i64 o6), (q4 + 1, 1, .slice A6 n6 c6)] [w.heap.size + 1 + 1] W) (by kernel_rfl) hXE (fun hS => ?_)
      clear hXE
      generalize ((w4.alloc (.cells #[.int .i64 o5, .slice A5 n5 c5] 27)).alloc (.cells #[.int .i64 o6, .slice A6 n6 c6] 27)).drew = wd2 at hS HV1 HV2 HV3 HV4 ⊢
      clear hq3 hq4
      have HF : Hid (∀ W, XS w [(q3, 0, .int .i64 o3), (q3, 1, .slice A3 n3 c3), (q3 + 1, 0, .int .i64 o4), (q3 + 1, 1, .slice A4 n4 c4), (q4, 0, .int .i64 o5), (q4, 1, .slice A5 n5 c5), (q4 + 1, 0, .int .i64 o6), (q4 + 1, 1, .slice A6 n6 c6)] [w.heap.size + 1 + 1] W → W.cell? ⟨q3, 0, none⟩ = some (.int .i64 o3) ∧ W.cell? ⟨q3, 1, none⟩ = some (.slice A3 n3 c3) ∧ W.cell? ⟨q3 + 1, 0, none⟩ = some (.int .i64 o4) ∧ W.cell? ⟨q3 + 1, 1, none⟩ = some (.slice A4 n4 c4) ∧ W.cell? ⟨q4, 0, none⟩ = some (.int .i64 o5) ∧ W.cell? ⟨q4, 1, none⟩ = some (.slice A5 n5 c5) ∧ W.cell? ⟨q4 + 1, 0, none⟩ = some (.int .i64 o6) ∧ W.cell? ⟨q4 + 1, 1, none⟩ = some (.slice A6 n6 c6)) := fun W hW => ⟨hW.get (by simp), hW.get (by simp), hW.get (by simp), hW.get (by simp), hW.get (by simp), hW.get (by simp), hW.get (by simp), hW.get (by simp)⟩
      refine wpAnyH_take (i := 0) (v := ?_) rfl (by kernel_rfl) (by kernel_rfl) (by kernel_rfl) (fun _ _ _ h => h) (Or.inl ⟨by kernel_rfl, fun W hW => ?_⟩) hS ?_
      rotate_left
      · obtain ⟨f0, f1, f2, f3, f4, f5, f6, f7⟩ := HF.out W hW
        first | (go_simp; done) | (go_simp; with_reducible rfl)
      refine wpAnyH_take (i := 1) (v := ?_) rfl (by kernel_rfl) (by kernel_rfl) (by kernel_rfl) (fun _ _ _ h => h) (Or.inl ⟨by kernel_rfl, fun W hW => ?_⟩) hS ?_
      rotate_left
      · obtain ⟨f0, f1, f2, f3, f4, f5, f6, f7⟩ := HF.out W hW
        first | (go_simp; done) | (go_simp; with_reducible rfl)
      refine wpAnyH_take (i := 2) (v := ?_) rfl (by kernel_rfl) (by kernel_rfl) (by kernel_rfl) (fun _ _ _ h => h) (Yields.yieldsIf (Or.inl ⟨by kernel_rfl, ?_⟩)) hS ?_
      rotate_left
      · first | (intro w; go_simp; done) | (intro w; go_simp; with_reducible rfl)
      refine wpAnyH_take (i := 3) (v := ?_) rfl (by kernel_rfl) (by kernel_rfl) (by kernel_rfl) (fun _ _ _ h => h) (Yields.yieldsIf (Or.inl ⟨by kernel_rfl, ?_⟩)) hS ?_
      rotate_left
      · first | (intro w; go_simp; done) | (intro w; go_simp; with_reducible rfl)
      refine wpAnyH_take (i := 5) (v := ?_) rfl (by kernel_rfl) (by kernel_rfl) (by kernel_rfl) (fun _ _ _ h => h) (Or.inl ⟨by kernel_rfl, fun W hW => ?_⟩) hS ?_
      rotate_left
      · obtain ⟨f0, f1, f2, f3, f4, f5, f6, f7⟩ := HF.out W hW
        first | (go_simp; done) | (go_simp; with_reducible rfl)
      refine wpAnyH_take (i := 6) (v := ?_) rfl (by kernel_rfl) (by kernel_rfl) (by kernel_rfl) (fun _ _ _ h => h) (Or.inl ⟨by kernel_rfl, fun W hW => ?_⟩) hS ?_
      rotate_left
      · obtain ⟨f0, f1, f2, f3, f4, f5, f6, f7⟩ := HF.out W hW
        first | (go_simp; done) | (go_simp; with_reducible rfl)
      refine wpAnyH_take (i := 7) (v := ?_) rfl (by kernel_rfl) (by kernel_rfl) (by kernel_rfl) (fun _ _ _ h => h) (Yields.yieldsIf (Or.inl ⟨by kernel_rfl, ?_⟩)) hS ?_
      rotate_left
      · first | (intro w; go_simp; done) | (intro w; go_simp; with_reducible rfl)
      refine wpAnyH_take (i := 8) (v := ?_) rfl (by kernel_rfl) (by kernel_rfl) (by kernel_rfl) (fun _ _ _ h => h) (Yields.yieldsIf (Or.inl ⟨by kernel_rfl, ?_⟩)) hS ?_
      rotate_left
      · first | (intro w; go_simp; done) | (intro w; go_simp; with_reducible rfl)
      refine wpAnyH_ready (rs := [4]) (by kernel_rfl) (by simp) ?_
      refine AllReadyH.cons rfl (fun K hK => ?_) AllReadyH.nil
      go_simp
      go_wp2_with (go_at_call 75; refine (hc1.out _ _ _ HV1.out HV3.out).mono ?_; rintro e w5 ⟨v5, rfl, ht5, hb5⟩)
      have hS3 := hS.next hb5
      have HT5 : Hid (InP (New w w5) w5 (Tr.join (half1 a) (half1 b) (x + o1) (y + o2)) v5) := ht5.more fun b hb => ⟨Nat.le_trans hS.bel.size hb.1, hb.2⟩
      have HW2 := Lib.hid (HV2.out.stay hb5)
      have HW4 := Lib.hid (HV4.out.stay hb5)
      clear hb5 ht5 hS HV1 HV2 HV3 HV4 hc1
      refine hK.out _ _ hS3 (fun hS => ?_)
      clear hK K hS3
      refine wpAnyH_ready (rs := [9]) (by kernel_rfl) (by simp) ?_
      refine AllReadyH.cons rfl (fun K hK => ?_) AllReadyH.nil
      go_simp
      go_wp2_with (go_at_call 75; refine (hc2.out _ _ _ HW2.out HW4.out).mono ?_; rintro e w6 ⟨v6, rfl, ht6, hb6⟩)
      have hS3 := hS.next hb6
      have HT7 : Hid (InP (New w w6) w6 (Tr.join (half1 a) (half1 b) (x + o1) (y + o2)) v5) := (HT5.out.stay hb6).more fun b hb => ⟨hb.1, Nat.lt_of_lt_of_le hb.2 hb6.size⟩
      have HT8 : Hid (InP (New w w6) w6 (Tr.join (half2 a) (half2 b) (x + o1) (y + o2)) v6) := ht6.more fun b hb => ⟨Nat.le_trans hS.bel.size hb.1, hb.2⟩
      clear hb6 ht6 hS HT5 HW2 HW4 hc2
      refine hK.out _ _ hS3 (fun hS => ?_)
      clear hK K hS3
      refine wpAnyH_ready (rs := [10]) (by kernel_rfl) (by simp) ?_
      refine AllReadyH.cons rfl (fun K hK => ?_) AllReadyH.nil
      go_simp
      go_wp2_with (go_at_call 81; refine (raise_any 0 _ _ _ _ _ HT7.out HT8.out (by omega) hjn1.out.1 hjn1.out.2 hjn2.out.1 hjn2.out.2 (by have := hjn1.out; omega)).mono ?_; rintro e w7 ⟨v7, rfl, ht7, hb7⟩)
      have hS3 := hS.next hb7
      have HT9 : Hid (InP (New w w7) w7 (Tr.join a b x y) v7) := by
        show InP _ _ _ _
        rw [HJ.out]
        exact ht7.more fun b hb => by
          rcases hb with hb | hb
          · exact ⟨hb.1, Nat.lt_of_lt_of_le hb.2 hb7.size⟩
          · exact ⟨Nat.le_trans hS.bel.size hb.1, hb.2⟩
      clear hb7 ht7 hS HT7 HT8 hjn1 hjn2 HJ
      refine hK.out _ _ hS3 (fun hS => ?_)
      clear hK K hS3
      obtain ⟨A7, n7, c7, rfl⟩ := HT9.out.form
      have HS := Lib.hid hS
      obtain ⟨u0, u1, ⟨c0, c1'⟩, f0, f1⟩ := hS.facts (w.heap.size + 1 + 1) (by simp)
      have HFIN : Hid (∀ u1 u2, InP (New w w7) ((w7.setCell ⟨w.heap.size + 1 + 1, 0, none⟩ u1).setCell ⟨w.heap.size + 1 + 1, 1, none⟩ u2) (Tr.join a b x y) (tv (Tr.join a b x y).N A7 n7 c7) ∧ Below w.heap.size w ((w7.setCell ⟨w.heap.size + 1 + 1, 0, none⟩ u1).setCell ⟨w.heap.size + 1 + 1, 1, none⟩ u2)) := fun u1 u2 => hS.fin (w.heap.size + 1 + 1) (by simp) HT9.out _ _
      obtain ⟨z, hz⟩ : ∃ z, (Tr.join a b x y).N = z := ⟨_, rfl⟩
      rw [hz] at HFIN ⊢
      clear HT9 hz hS HF
      unfold tv
      refine wpAnyH_ready (rs := [11]) (by kernel_rfl) (by simp) ?_
      refine AllReadyH.cons rfl (fun K hK => ?_) AllReadyH.nil
      go_simp
      go_wp2
      refine hK.out _ _ ((HS.out.store (w.heap.size + 1 + 1) 0 _ (by simp) (by simp <;> omega)).store (w.heap.size + 1 + 1) 1 _ (by simp) (by simp <;> omega)) (fun _ => ?_)
      clear hK K HS
      refine wpAnyH_done (by kernel_rfl) ?_ _
      go_wp2
      refine bodyPost_ret (v := tv z A7 n7 c7) (by simp [results, Tryd.f75, go_sem, tv, c0, c1']) rfl ?_
      refine ⟨_, rfl, ?_, (HFIN.out _ _).2⟩
      exact (HFIN.out _ _).1.more fun b hb => ⟨hb.1, by rw [size_set, size_set]; exact hb.2⟩
  | false =>
    clear hl2
    have hbl : bothLeaf a b = false := HBL2.out
    have hc1 := Lib.hid (HC1.out hbl)
    have hc2 := Lib.hid (HC2.out hbl)
    have HJ := Lib.hid (HJH.out hbl)
    have hcA := HHA.out w1 HS1.out.bel
    clear HC1 HC2 HJH HJL hbl HHA HBL2 REST
    go_wp2_with fail
    refine hcA.mono ?_
    rintro e w3 ⟨v1, v2, rfl, ht1, ht2, hb3⟩
    obtain ⟨A3, n3, c3, rfl⟩ := ht1.form
    obtain ⟨A4, n4, c4, rfl⟩ := ht2.form
    generalize (half1 a).N = o3 at *
    generalize (half2 a).N = o4 at *
    have hx3 := HS1.out.next hb3
    have hg3 : w.heap.size + 1 + 1 < w3.heap.size := by obtain ⟨_, _, ⟨k, _⟩, _⟩ := hx3.facts (w.heap.size + 1 + 1) (by simp); exact World.block_lt_of_cell? w3 _ k
    have hbx : Below w3.heap.size w3 ((w3.alloc (.cells #[.int .i64 o3, .slice A3 n3 c3] 27)).alloc (.cells #[.int .i64 o4, .slice A4 n4 c4] 27)) := ((Below.refl _ w3).alloc (Nat.le_refl _) _).alloc (by simp) _
    have HX3 := Lib.hid ((hx3.boxed (.int .i64 o3) (.slice A3 n3 c3) 27).boxed (.int .i64 o4) (.slice A4 n4 c4) 27)
    have HT1 := Lib.hid (ht1.stay hbx)
    have HT2 := Lib.hid (ht2.stay hbx)
    simp only [List.nil_append, List.cons_append, World.size_alloc] at HX3
    have g3 := HX3.out.at0
    simp only [List.mem_cons, List.not_mem_nil, or_false, forall_eq_or_imp, forall_eq] at g3
    clear hcA hb3 hx3 ht1 ht2 hbx HS1 p0 p1 p2 p3
    obtain ⟨p0, p1, p2, p3, p4, p5, p6, p7⟩ := g3
    have hcB := HHB.out _ HX3.out.bel
    clear HHB
    unfold tv
    go_wp2_with fail
    refine hcB.mono ?_
    rintro e w4 ⟨v3, v4, rfl, ht3, ht4, hb4⟩
    obtain ⟨A5, n5, c5, rfl⟩ := ht3.form
    obtain ⟨A6, n6, c6, rfl⟩ := ht4.form
    generalize (half1 b).N = o5 at *
    generalize (half2 b).N = o6 at *
    have hx4 := HX3.out.next hb4
    have hg4 : w.heap.size + 1 + 1 < w4.heap.size := by obtain ⟨_, _, ⟨k, _⟩, _⟩ := hx4.facts (w.heap.size + 1 + 1) (by simp); exact World.block_lt_of_cell? w4 _ k
    have hbx : Below w4.heap.size w4 ((w4.alloc (.cells #[.int .i64 o5, .slice A5 n5 c5] 27)).alloc (.cells #[.int .i64 o6, .slice A6 n6 c6] 27)) := ((Below.refl _ w4).alloc (Nat.le_refl _) _).alloc (by simp) _
    have HX4 := Lib.hid ((hx4.boxed (.int .i64 o5) (.slice A5 n5 c5) 27).boxed (.int .i64 o6) (.slice A6 n6 c6) 27)
    have HU1 := Lib.hid ((HT1.out.stay hb4).stay hbx)
    have HU2 := Lib.hid ((HT2.out.stay hb4).stay hbx)
    have HU3 := Lib.hid (ht3.stay hbx)
    have HU4 := Lib.hid (ht4.stay hbx)
    simp only [List.nil_append, List.cons_append, World.size_alloc] at HX4
    clear hcB hb4 hx4 ht3 ht4 hbx HX3 HT1 HT2 p0 p1 p2 p3 p4 p5 p6 p7
    unfold tv
    go_wp2
    have hXD := HX4.out.drew
    have hbD : Below ((w4.alloc (.cells #[.int .i64 o5, .slice A5 n5 c5] 27)).alloc (.cells #[.int .i64 o6, .slice A6 n6 c6] 27)).heap.size ((w4.alloc (.cells #[.int .i64 o5, .slice A5 n5 c5] 27)).alloc (.cells #[.int .i64 o6, .slice A6 n6 c6] 27)) ((w4.alloc (.cells #[.int .i64 o5, .slice A5 n5 c5] 27)).alloc (.cells #[.int .i64 o6, .slice A6 n6 c6] 27)).drew := (Below.refl _ _).drew
    have HV1 := Lib.hid (HU1.out.stay hbD)
    have HV2 := Lib.hid (HU2.out.stay hbD)
    have HV3 := Lib.hid (HU3.out.stay hbD)
    have HV4 := Lib.hid (HU4.out.stay hbD)
    clear HX4 HU1 HU2 HU3 HU4 hbD HF
    obtain ⟨q3, hq3⟩ : ∃ q, w3.heap.size = q := ⟨_, rfl⟩
    obtain ⟨q4, hq4⟩ : ∃ q, w4.heap.size = q := ⟨_, rfl⟩
    rw [hq3, hq4] at hXD ⊢
    rw [hq3] at hg3
    rw [hq4] at hg4
    have hXE : XS w [(q3, 0, .int .i64 o3), (q3, 1, .slice A3 n3 c3), (q3 + 1, 0, .int .i64 o4), (q3 + 1, 1, .slice A4 n4 c4), (q4, 0, .int .i64 o5), (q4, 1, .slice A5 n5 c5), (q4 + 1, 0, .int .i64 o6), (q4 + 1, 1, .slice A6 n6 c6)] [w.heap.size + 1 + 1] ((w4.alloc (.cells #[.int .i64 o5, .slice A5 n5 c5] 27)).alloc (.cells #[.int .i64 o6, .slice A6 n6 c6] 27)).drew := hXD.sub (by simp) (by simp)
    clear hXD
    refine wp_region_held_drew (S := fun W => XS w [(q3, 0, .int .i64 o3), (q3, 1, .slice A3 n3 c3), (q3 + 1, 0, .int .i64 o4), (q3 + 1, 1, .slice A4 n4 c4), (q4, 0, .int .i64 o5), (q4, 1, .slice A5 n5 c5), (q4 + 1, 0, .int .i64 o6), (q4 + 1, 1, .slice A6 n6 c6)] [w.heap.size + 1 + 1] W) (by kernel_rfl) hXE (fun hS => ?_)
    clear hXE
    generalize ((w4.alloc (.cells #[.int .i64 o5, .slice A5 n5 c5] 27)).alloc (.cells #[.int .i64 o6, .slice A6 n6 c6] 27)).drew = wd2 at hS HV1 HV2 HV3 HV4 ⊢
    clear hq3 hq4
    have HF : Hid (∀ W, XS w [(q3, 0, .int .i64 o3), (q3, 1, .slice A3 n3 c3), (q3 + 1, 0, .int .i64 o4), (q3 + 1, 1, .slice A4 n4 c4), (q4, 0, .int .i64 o5), (q4, 1, .slice A5 n5 c5), (q4 + 1, 0, .int .i64 o6), (q4 + 1, 1, .slice A6 n6 c6)] [w.heap.size + 1 + 1] W → W.cell? ⟨q3, 0, none⟩ = some (.int .i64 o3) ∧ W.cell? ⟨q3, 1, none⟩ = some (.slice A3 n3 c3) ∧ W.cell? ⟨q3 + 1, 0, none⟩ = some (.int .i64 o4) ∧ W.cell? ⟨q3 + 1, 1, none⟩ = some (.slice A4 n4 c4) ∧ W.cell? ⟨q4, 0, none⟩ = some (.int .i64 o5) ∧ W.cell? ⟨q4, 1, none⟩ = some (.slice A5 n5 c5) ∧ W.cell? ⟨q4 + 1, 0, none⟩ = some (.int .i64 o6) ∧ W.cell? ⟨q4 + 1, 1, none⟩ = some (.slice A6 n6 c6)) := fun W hW => ⟨hW.get (by simp), hW.get (by simp), hW.get (by simp), hW.get (by simp), hW.get (by simp), hW.get (by simp), hW.get (by simp), hW.get (by simp)⟩
    refine wpAnyH_take (i := 0) (v := ?_) rfl (by kernel_rfl) (by kernel_rfl) (by kernel_rfl) (fun _ _ _ h => h) (Or.inl ⟨by kernel_rfl, fun W hW => ?_⟩) hS ?_
    rotate_left
    · obtain ⟨f0, f1, f2, f3, f4, f5, f6, f7⟩ := HF.out W hW
      first | (go_simp; done) | (go_simp; with_reducible rfl)
    refine wpAnyH_take (i := 1) (v := ?_) rfl (by kernel_rfl) (by kernel_rfl) (by kernel_rfl) (fun _ _ _ h => h) (Or.inl ⟨by kernel_rfl, fun W hW => ?_⟩) hS ?_
    rotate_left
    · obtain ⟨f0, f1, f2, f3, f4, f5, f6, f7⟩ := HF.out W hW
      first | (go_simp; done) | (go_simp; with_reducible rfl)
    refine wpAnyH_take (i := 2) (v := ?_) rfl (by kernel_rfl) (by kernel_rfl) (by kernel_rfl) (fun _ _ _ h => h) (Yields.yieldsIf (Or.inl ⟨by kernel_rfl, ?_⟩)) hS ?_
    rotate_left
    · first | (intro w; go_simp; done) | (intro w; go_simp; with_reducible rfl)
    refine wpAnyH_take (i := 3) (v := ?_) rfl (by kernel_rfl) (by kernel_rfl) (by kernel_rfl) (fun _ _ _ h => h) (Yields.yieldsIf (Or.inl ⟨by kernel_rfl, ?_⟩)) hS ?_
    rotate_left
    · first | (intro w; go_simp; done) | (intro w; go_simp; with_reducible rfl)
    refine wpAnyH_take (i := 5) (v := ?_) rfl (by kernel_rfl) (by kernel_rfl) (by kernel_rfl) (fun _ _ _ h => h) (Or.inl ⟨by kernel_rfl, fun W hW => ?_⟩) hS ?_
    rotate_left
    · obtain ⟨f0, f1, f2, f3, f4, f5, f6, f7⟩ := HF.out W hW
      first | (go_simp; done) | (go_simp; with_reducible rfl)
    refine wpAnyH_take (i := 6) (v := ?_) rfl (by kernel_rfl) (by kernel_rfl) (by kernel_rfl) (fun _ _ _ h => h) (Or.inl ⟨by kernel_rfl, fun W hW => ?_⟩) hS ?_
    rotate_left
    · obtain ⟨f0, f1, f2, f3, f4, f5, f6, f7⟩ := HF.out W hW
      first | (go_simp; done) | (go_simp; with_reducible rfl)
    refine wpAnyH_take (i := 7) (v := ?_) rfl (by kernel_rfl) (by kernel_rfl) (by kernel_rfl) (fun _ _ _ h => h) (Yields.yieldsIf (Or.inl ⟨by kernel_rfl, ?_⟩)) hS ?_
    rotate_left
    · first | (intro w; go_simp; done) | (intro w; go_simp; with_reducible rfl)
    refine wpAnyH_take (i := 8) (v := ?_) rfl (by kernel_rfl) (by kernel_rfl) (by kernel_rfl) (fun _ _ _ h => h) (Yields.yieldsIf (Or.inl ⟨by kernel_rfl, ?_⟩)) hS ?_
    rotate_left
    · first | (intro w; go_simp; done) | (intro w; go_simp; with_reducible rfl)
    refine wpAnyH_ready (rs := [4]) (by kernel_rfl) (by simp) ?_
    refine AllReadyH.cons rfl (fun K hK => ?_) AllReadyH.nil
    go_simp
    go_wp2_with (go_at_call 75; refine (hc1.out _ _ _ HV1.out HV3.out).mono ?_; rintro e w5 ⟨v5, rfl, ht5, hb5⟩)
    have hS3 := hS.next hb5
    have HT5 : Hid (InP (New w w5) w5 (Tr.join (half1 a) (half1 b) (x + o1) (y + o2)) v5) := ht5.more fun b hb => ⟨Nat.le_trans hS.bel.size hb.1, hb.2⟩
    have HW2 := Lib.hid (HV2.out.stay hb5)
    have HW4 := Lib.hid (HV4.out.stay hb5)
    clear hb5 ht5 hS HV1 HV2 HV3 HV4 hc1
    refine hK.out _ _ hS3 (fun hS => ?_)
    clear hK K hS3
    refine wpAnyH_ready (rs := [9]) (by kernel_rfl) (by simp) ?_
    refine AllReadyH.cons rfl (fun K hK => ?_) AllReadyH.nil
    go_simp
    go_wp2_with (go_at_call 75; refine (hc2.out _ _ _ HW2.out HW4.out).mono ?_; rintro e w6 ⟨v6, rfl, ht6, hb6⟩)
    have hS3 := hS.next hb6
    have HT7 : Hid (InP (New w w6) w6 (Tr.join (half1 a) (half1 b) (x + o1) (y + o2)) v5) := (HT5.out.stay hb6).more fun b hb => ⟨hb.1, Nat.lt_of_lt_of_le hb.2 hb6.size⟩
    have HT8 : Hid (InP (New w w6) w6 (Tr.join (half2 a) (half2 b) (x + o1) (y + o2)) v6) := ht6.more fun b hb => ⟨Nat.le_trans hS.bel.size hb.1, hb.2⟩
    clear hb6 ht6 hS HT5 HW2 HW4 hc2
    refine hK.out _ _ hS3 (fun hS => ?_)
    clear hK K hS3
    refine wpAnyH_ready (rs := [10]) (by kernel_rfl) (by simp) ?_
    refine AllReadyH.cons rfl (fun K hK => ?_) AllReadyH.nil
    go_simp
    go_wp2_with (go_at_call 81; refine (raise_any 0 _ _ _ _ _ HT7.out HT8.out (by omega) hjn1.out.1 hjn1.out.2 hjn2.out.1 hjn2.out.2 (by have := hjn1.out; omega)).mono ?_; rintro e w7 ⟨v7, rfl, ht7, hb7⟩)
    have hS3 := hS.next hb7
    have HT9 : Hid (InP (New w w7) w7 (Tr.join a b x y) v7) := by
      show InP _ _ _ _
      rw [HJ.out]
      exact ht7.more fun b hb => by
        rcases hb with hb | hb
        · exact ⟨hb.1, Nat.lt_of_lt_of_le hb.2 hb7.size⟩
        · exact ⟨Nat.le_trans hS.bel.size hb.1, hb.2⟩
    clear hb7 ht7 hS HT7 HT8 hjn1 hjn2 HJ
    refine hK.out _ _ hS3 (fun hS => ?_)
    clear hK K hS3
    obtain ⟨A7, n7, c7, rfl⟩ := HT9.out.form
    have HS := Lib.hid hS
    obtain ⟨u0, u1, ⟨c0, c1'⟩, f0, f1⟩ := hS.facts (w.heap.size + 1 + 1) (by simp)
    have HFIN : Hid (∀ u1 u2, InP (New w w7) ((w7.setCell ⟨w.heap.size + 1 + 1, 0, none⟩ u1).setCell ⟨w.heap.size + 1 + 1, 1, none⟩ u2) (Tr.join a b x y) (tv (Tr.join a b x y).N A7 n7 c7) ∧ Below w.heap.size w ((w7.setCell ⟨w.heap.size + 1 + 1, 0, none⟩ u1).setCell ⟨w.heap.size + 1 + 1, 1, none⟩ u2)) := fun u1 u2 => hS.fin (w.heap.size + 1 + 1) (by simp) HT9.out _ _
    obtain ⟨z, hz⟩ : ∃ z, (Tr.join a b x y).N = z := ⟨_, rfl⟩
    rw [hz] at HFIN ⊢
    clear HT9 hz hS HF
    unfold tv
    refine wpAnyH_ready (rs := [11]) (by kernel_rfl) (by simp) ?_
    refine AllReadyH.cons rfl (fun K hK => ?_) AllReadyH.nil
    go_simp
    go_wp2
    refine hK.out _ _ ((HS.out.store (w.heap.size + 1 + 1) 0 _ (by simp) (by simp <;> omega)).store (w.heap.size + 1 + 1) 1 _ (by simp) (by simp <;> omega)) (fun _ => ?_)
    clear hK K HS
    refine wpAnyH_done (by kernel_rfl) ?_ _
    go_wp2
    refine bodyPost_ret (v := tv z A7 n7 c7) (by simp [results, Tryd.f75, go_sem, tv, c0, c1']) rfl ?_
    refine ⟨_, rfl, ?_, (HFIN.out _ _).2⟩
    exact (HFIN.out _ _).1.more fun b hb => ⟨hb.1, by rw [size_set, size_set]; exact hb.2⟩
end Go.Proofs.YtoaglkjpjolacaaDoor.E
namespace Go.Proofs.YtoaglkjpjolacaaDoor.E
open Go.RowKit
set_option maxRecDepth 100000 in
set_option maxHeartbeats 3200000 in
theorem leq_leaf (n : Int) (b : Tr) (x y : Int) (P : Nat → Prop) (A : Option Addr) (c : Nat) (v : Value) (w : World) (hb : InP P w b v) (hx : 0 ≤ x) (hy : 0 ≤ y) (hx2 : x ≤ 4611686018427387904) (hy2 : y ≤ 4611686018427387904) (hn : 0 ≤ n) (hn2 : n ≤ 4611686018427387904 - x) (hob : b.okc (4611686018427387904 - y) = true) :
    Calls Tryd.prog 66 #[tv n A 0 c, v, .int .i64 x, .int .i64 y] w fun e w' => e = .returned (.bool (decide (x + n ≤ y + low b))) ∧ Below w.heap.size w w' := by
  obtain ⟨A2, n2, c2, rfl⟩ := hb.form
  have HE : Hid (∀ W, Below w.heap.size w W → Calls Tryd.prog 95 #[tv b.N A2 n2 c2, .int .i64 y] W fun e w' => e = .returned (.tuple #[.int .i64 (y + low b), .int .i64 (y + high b)]) ∧ Below W.heap.size W w') := fun W hW => ends_any b y P _ W (hb.stay hW) hy hy2 hob
  clear hb hob
  generalize b.N = o2 at *
  obtain ⟨L, hL⟩ : ∃ L, y + low b = L := ⟨_, rfl⟩
  obtain ⟨M, hM⟩ : ∃ M, y + high b = M := ⟨_, rfl⟩
  rw [hL, hM] at HE
  rw [hL]
  clear hL hM
  have HX := Lib.hid (((XS.begin w).boxed (.int .i64 n) (.slice A 0 c) 27).boxed (.int .i64 o2) (.slice A2 n2 c2) 27)
  simp only [List.nil_append, List.cons_append, World.size_alloc] at HX
  have hc := pleaf_any n A 0 c ((w.alloc (.cells #[.int .i64 n, .slice A 0 c] 27)).alloc (.cells #[.int .i64 o2, .slice A2 n2 c2] 27))
  unfold tv at *
  go_enter Tryd.func66, Tryd.ntmps66
  go_wp2_with fail
  refine hc.mono ?_
  rintro e w1 ⟨rfl, hb1⟩
  have HX1 := Lib.hid (HX.out.next hb1)
  have f := HX1.out.at0
  simp only [List.mem_cons, List.not_mem_nil, or_false, forall_eq_or_imp, forall_eq] at f
  obtain ⟨p0, p1, p2, p3⟩ := f
  have hcE := HE.out w1 HX1.out.bel
  clear hb1 hc HX HE
  go_wp2_with fail
  refine hcE.mono ?_
  rintro e w2 ⟨rfl, hb2⟩
  have HX2 := Lib.hid (HX1.out.next hb2)
  clear p0 p1 p2 p3
  have f := HX2.out.at0
  simp only [List.mem_cons, List.not_mem_nil, or_false, forall_eq_or_imp, forall_eq] at f
  obtain ⟨p0, p1, p2, p3⟩ := f
  clear hb2 hcE HX1
  go_wp2
  go_ret
  exact ⟨ret_bool (by first | rfl | simp), HX2.out.bel⟩

set_option maxRecDepth 100000 in
set_option maxHeartbeats 3200000 in
theorem leq_nleaf (a : Tr) (n : Int) (x y : Int) (P : Nat → Prop) (u : Value) (A : Option Addr) (c : Nat) (w : World) (ha : InP P w a u) (hna : ∀ m, a ≠ .leaf m) (hx : 0 ≤ x) (hy : 0 ≤ y) (hx2 : x ≤ 4611686018427387904) (hy2 : y ≤ 4611686018427387904) (hn : 0 ≤ n) (hn2 : n ≤ 4611686018427387904 - y) (hoa : a.okc (4611686018427387904 - x) = true) :
    Calls Tryd.prog 66 #[u, tv n A 0 c, .int .i64 x, .int .i64 y] w fun e w' => e = .returned (.bool (decide (x + high a ≤ y + n))) ∧ Below w.heap.size w w' := by
  obtain ⟨A1, n1, c1, rfl⟩ := ha.form
  have h1 : n1 ≠ 0 := by
    rcases ha.leafy with ⟨_, h⟩ | ⟨h, _⟩
    · exact absurd h (hna _)
    · omega
  have HE : Hid (∀ W, Below w.heap.size w W → Calls Tryd.prog 95 #[tv a.N A1 n1 c1, .int .i64 x] W fun e w' => e = .returned (.tuple #[.int .i64 (x + low a), .int .i64 (x + high a)]) ∧ Below W.heap.size W w') := fun W hW => ends_any a x P _ W (ha.stay hW) hx hx2 hoa
  clear ha hoa hna
  generalize a.N = o1 at *
  obtain ⟨L, hL⟩ : ∃ L, x + low a = L := ⟨_, rfl⟩
  obtain ⟨M, hM⟩ : ∃ M, x + high a = M := ⟨_, rfl⟩
  rw [hL, hM] at HE
  rw [hM]
  clear hL hM
  have HX := Lib.hid (((XS.begin w).boxed (.int .i64 o1) (.slice A1 n1 c1) 27).boxed (.int .i64 n) (.slice A 0 c) 27)
  simp only [List.nil_append, List.cons_append, World.size_alloc] at HX
  have hc := pleaf_any o1 A1 n1 c1 ((w.alloc (.cells #[.int .i64 o1, .slice A1 n1 c1] 27)).alloc (.cells #[.int .i64 n, .slice A 0 c] 27))
  rw [decide_eq_false h1] at hc
  have hc2 := fun W => pleaf_any n A 0 c W
  unfold tv at *
  clear h1
  go_enter Tryd.func66, Tryd.ntmps66
  go_wp2_with fail
  refine hc.mono ?_
  rintro e w1 ⟨rfl, hb1⟩
  have HX1 := Lib.hid (HX.out.next hb1)
  have f := HX1.out.at0
  simp only [List.mem_cons, List.not_mem_nil, or_false, forall_eq_or_imp, forall_eq] at f
  obtain ⟨p0, p1, p2, p3⟩ := f
  clear hb1 hc HX
  go_wp2_with fail
  refine (hc2 w1).mono ?_
  rintro e w2 ⟨rfl, hb2⟩
  have HX2 := Lib.hid (HX1.out.next hb2)
  clear p0 p1 p2 p3
  have f := HX2.out.at0
  simp only [List.mem_cons, List.not_mem_nil, or_false, forall_eq_or_imp, forall_eq] at f
  obtain ⟨p0, p1, p2, p3⟩ := f
  have hcE := HE.out w2 HX2.out.bel
  clear hb2 hc2 HX1 HE
  go_wp2_with fail
  refine hcE.mono ?_
  rintro e w3 ⟨rfl, hb3⟩
  have HX3 := Lib.hid (HX2.out.next hb3)
  clear p0 p1 p2 p3
  have f := HX3.out.at0
  simp only [List.mem_cons, List.not_mem_nil, or_false, forall_eq_or_imp, forall_eq] at f
  obtain ⟨p0, p1, p2, p3⟩ := f
  clear hb3 hcE HX2
  go_wp2
  go_ret
  exact ⟨ret_bool (by first | rfl | simp), HX3.out.bel⟩

set_option maxRecDepth 100000 in
set_option maxHeartbeats 6400000 in
theorem leq_any : ∀ (a b : Tr) (x y : Int) (P : Nat → Prop) (u v : Value) (w : World), InP P w a u → InP P w b v → 0 ≤ x → 0 ≤ y → x ≤ 4611686018427387904 → y ≤ 4611686018427387904 → a.okc (4611686018427387904 - x) = true → b.okc (4611686018427387904 - y) = true →
    Calls Tryd.prog 66 #[u, v, .int .i64 x, .int .i64 y] w fun e w' => e = .returned (.bool (leqT a b x y)) ∧ Below w.heap.size w w' := by
  intro a
  induction a with
  | leaf n =>
    rintro b x y P u v w ⟨A, c, rfl⟩ hb hx hy hx2 hy2 hoa hob
    have := okc_N _ _ hoa
    simp only [Tr.N] at this
    exact leq_leaf n b x y P A c v w hb hx hy hx2 hy2 this.1 this.2 hob
  | node n l r ihl ihr =>
    rintro b x y P u v w ha hb hx hy hx2 hy2 hoa hob
    cases b with
    | leaf m =>
      obtain ⟨A, c, rfl⟩ := hb
      have := okc_N _ _ hob
      simp only [Tr.N] at this
      exact leq_nleaf (.node n l r) m x y P u A c w ha (by simp) hx hy hx2 hy2 this.1 this.2 hoa
    | node m p q =>
      obtain ⟨b1, off1, c1, rfl, hb1, ⟨o1, A1, n1, d1, e1, e2, e3⟩, ⟨o2, A2, n2, d2, g1, g2, g3⟩⟩ := ha
      obtain ⟨b2, off2, c2, rfl, hb2, ⟨o3, A3, n3, d3, k1, k2, k3⟩, ⟨o4, A4, n4, d4, j1, j2, j3⟩⟩ := hb
      have hbs1 : b1 < w.heap.size := World.block_lt_of_cell? w _ e1
      have hbs2 : b2 < w.heap.size := World.block_lt_of_cell? w _ k1
      simp only [Tr.okc, Bool.and_eq_true_iff, decide_eq_true_eq] at hoa hob
      have ex : (4611686018427387904 : Int) - (x + n) = 4611686018427387904 - x - n := by omega
      have ey : (4611686018427387904 : Int) - (y + m) = 4611686018427387904 - y - m := by omega
      have HC1 : Hid (∀ W, Below w.heap.size w W → Calls Tryd.prog 66 #[.agg #[.int .i64 o1, .slice A1 n1 d1], .agg #[.int .i64 o3, .slice A3 n3 d3], .int .i64 (x + n), .int .i64 (y + m)] W fun e w' => e = .returned (.bool (leqT l p (x + n) (y + m))) ∧ Below W.heap.size W w') := fun W hW => ihl p _ _ P _ _ W (e3.stay hW) (k3.stay hW) (by omega) (by omega) (by omega) (by omega) (by rw [ex]; exact hoa.2.1) (by rw [ey]; exact hob.2.1)
      have HC2 : Hid (∀ W, Below w.heap.size w W → Calls Tryd.prog 66 #[.agg #[.int .i64 o2, .slice A2 n2 d2], .agg #[.int .i64 o4, .slice A4 n4 d4], .int .i64 (x + n), .int .i64 (y + m)] W fun e w' => e = .returned (.bool (leqT r q (x + n) (y + m))) ∧ Below W.heap.size W w') := fun W hW => ihr q _ _ P _ _ W (g3.stay hW) (j3.stay hW) (by omega) (by omega) (by omega) (by omega) (by rw [ex]; exact hoa.2.2) (by rw [ey]; exact hob.2.2)
      have HR : Hid (leqT (.node n l r) (.node m p q) x y = (leqT l p (x + n) (y + m) && leqT r q (x + n) (y + m))) := rfl
      have HX := Lib.hid (((XS.begin w).boxed (.int .i64 n) (.slice (some ⟨b1, off1, none⟩) 2 c1) 27).boxed (.int .i64 m) (.slice (some ⟨b2, off2, none⟩) 2 c2) 27)
      simp only [List.nil_append, List.cons_append, World.size_alloc] at HX
      have HF : Hid (∀ W, XS w [(w.heap.size, 0, .int .i64 n), (w.heap.size, 1, .slice (some ⟨b1, off1, none⟩) 2 c1), (w.heap.size + 1, 0, .int .i64 m), (w.heap.size + 1, 1, .slice (some ⟨b2, off2, none⟩) 2 c2)] [w.heap.size, w.heap.size + 1] W → W.cell? ⟨w.heap.size, 0, none⟩ = some (.int .i64 n) ∧ W.cell? ⟨w.heap.size, 1, none⟩ = some (.slice (some ⟨b1, off1, none⟩) 2 c1) ∧ W.cell? ⟨w.heap.size + 1, 0, none⟩ = some (.int .i64 m) ∧ W.cell? ⟨w.heap.size + 1, 1, none⟩ = some (.slice (some ⟨b2, off2, none⟩) 2 c2) ∧ W.cell? ⟨b1, off1, none⟩ = some (.int .i64 o1) ∧ W.cell? ⟨b1, off1 + 1, none⟩ = some (.slice A1 n1 d1) ∧ W.cell? ⟨b1, off1 + 2, none⟩ = some (.int .i64 o2) ∧ W.cell? ⟨b1, off1 + 2 + 1, none⟩ = some (.slice A2 n2 d2) ∧ W.cell? ⟨b2, off2, none⟩ = some (.int .i64 o3) ∧ W.cell? ⟨b2, off2 + 1, none⟩ = some (.slice A3 n3 d3) ∧ W.cell? ⟨b2, off2 + 2, none⟩ = some (.int .i64 o4) ∧ W.cell? ⟨b2, off2 + 2 + 1, none⟩ = some (.slice A4 n4 d4)) := fun W hW => by
        have low1 : ∀ i, W.cell? ⟨b1, i, none⟩ = w.cell? ⟨b1, i, none⟩ := fun i => hW.bel.cell hbs1
        have low2 : ∀ i, W.cell? ⟨b2, i, none⟩ = w.cell? ⟨b2, i, none⟩ := fun i => hW.bel.cell hbs2
        exact ⟨hW.get (by simp), hW.get (by simp), hW.get (by simp), hW.get (by simp), (low1 _).trans e1, (low1 _).trans e2, (low1 _).trans g1, (low1 _).trans g2, (low2 _).trans k1, (low2 _).trans k2, (low2 _).trans j1, (low2 _).trans j2⟩
      have hc := pleaf_any n (some ⟨b1, off1, none⟩) 2 c1 ((w.alloc (.cells #[.int .i64 n, .slice (some ⟨b1, off1, none⟩) 2 c1] 27)).alloc (.cells #[.int .i64 m, .slice (some ⟨b2, off2, none⟩) 2 c2] 27))
      have hc2 := fun W => pleaf_any m (some ⟨b2, off2, none⟩) 2 c2 W
      have hw1 : IntKind.i64.wrap (x + n) = x + n := wrap_id (by omega) (by omega)
      have hw2 : IntKind.i64.wrap (y + m) = y + m := wrap_id (by omega) (by omega)
      have hn0 := hoa.1
      have hm0 := hob.1
      unfold tv at *
      clear ihl ihr e1 e2 e3 g1 g2 g3 k1 k2 k3 j1 j2 j3 hoa hob hbs1 hbs2 ex ey hb1 hb2
      go_enter Tryd.func66, Tryd.ntmps66
      go_wp2_with fail
      refine hc.mono ?_
      rintro e w1 ⟨rfl, hb1⟩
      have HX1 := Lib.hid (HX.out.next hb1)
      have f := HX1.out.at0
      simp only [List.mem_cons, List.not_mem_nil, or_false, forall_eq_or_imp, forall_eq] at f
      obtain ⟨p0, p1, p2, p3⟩ := f
      clear hb1 hc HX
      go_wp2_with fail
      refine (hc2 w1).mono ?_
      rintro e w2 ⟨rfl, hb2⟩
      have hXD := (HX1.out.next hb2).drew
      clear hb2 hc2 HX1 p0 p1 p2 p3
      go_wp2
      refine wp_region_held_drew (S := fun W => XS w [(w.heap.size, 0, .int .i64 n), (w.heap.size, 1, .slice (some ⟨b1, off1, none⟩) 2 c1), (w.heap.size + 1, 0, .int .i64 m), (w.heap.size + 1, 1, .slice (some ⟨b2, off2, none⟩) 2 c2)] [w.heap.size, w.heap.size + 1] W) (by kernel_rfl) hXD (fun hS => ?_)
      clear hXD
      generalize w2.drew = wd at hS ⊢
      refine wpAnyH_take (i := 0) (v := ?_) rfl (by kernel_rfl) (by kernel_rfl) (by kernel_rfl) (fun _ _ _ h => h) (Yields.yieldsIf (Or.inl ⟨by kernel_rfl, ?_⟩)) hS ?_
      rotate_left
      · first | (intro w; go_simp; done) | (intro w; go_simp; with_reducible rfl)
      refine wpAnyH_take (i := 1) (v := ?_) rfl (by kernel_rfl) (by kernel_rfl) (by kernel_rfl) (fun _ _ _ h => h) (Yields.yieldsIf (Or.inl ⟨by kernel_rfl, ?_⟩)) hS ?_
      rotate_left
      · first | (intro w; go_simp; done) | (intro w; go_simp; with_reducible rfl)
      refine wpAnyH_take (i := 2) (v := ?_) rfl (by kernel_rfl) (by kernel_rfl) (by kernel_rfl) (fun _ _ _ h => h) (Or.inl ⟨by kernel_rfl, fun W hW => ?_⟩) hS ?_
      rotate_left
      · obtain ⟨f0, f1, f2, f3, f4, f5, f6, f7, f8, f9, f10, f11⟩ := HF.out W hW
        first | (go_simp; done) | (go_simp; with_reducible rfl)
      refine wpAnyH_take (i := 3) (v := ?_) rfl (by kernel_rfl) (by kernel_rfl) (by kernel_rfl) (fun _ _ _ h => h) (Yields.yieldsIf (Or.inl ⟨by kernel_rfl, ?_⟩)) hS ?_
      rotate_left
      · first | (intro w; go_simp; done) | (intro w; go_simp; with_reducible rfl)
      refine wpAnyH_take (i := 4) (v := ?_) rfl (by kernel_rfl) (by kernel_rfl) (by kernel_rfl) (fun _ _ _ h => h) (Yields.yieldsIf (Or.inl ⟨by kernel_rfl, ?_⟩)) hS ?_
      rotate_left
      · first | (intro w; go_simp; done) | (intro w; go_simp; with_reducible rfl)
      refine wpAnyH_take (i := 5) (v := ?_) rfl (by kernel_rfl) (by kernel_rfl) (by kernel_rfl) (fun _ _ _ h => h) (Yields.yieldsIf (Or.inl ⟨by kernel_rfl, ?_⟩)) hS ?_
      rotate_left
      · first | (intro w; go_simp; done) | (intro w; go_simp; with_reducible rfl)
      refine wpAnyH_take (i := 6) (v := ?_) rfl (by kernel_rfl) (by kernel_rfl) (by kernel_rfl) (fun _ _ _ h => h) (Or.inl ⟨by kernel_rfl, fun W hW => ?_⟩) hS ?_
      rotate_left
      · obtain ⟨f0, f1, f2, f3, f4, f5, f6, f7, f8, f9, f10, f11⟩ := HF.out W hW
        first | (go_simp; done) | (go_simp; with_reducible rfl)
      refine wpAnyH_take (i := 7) (v := ?_) rfl (by kernel_rfl) (by kernel_rfl) (by kernel_rfl) (fun _ _ _ h => h) (Yields.yieldsIf (Or.inl ⟨by kernel_rfl, ?_⟩)) hS ?_
      rotate_left
      · first | (intro w; go_simp; done) | (intro w; go_simp; with_reducible rfl)
      refine wpAnyH_take (i := 8) (v := ?_) rfl (by kernel_rfl) (by kernel_rfl) (by kernel_rfl) (fun _ _ _ h => h) (Yields.yieldsIf (Or.inl ⟨by kernel_rfl, ?_⟩)) hS ?_
      rotate_left
      · first | (intro w; go_simp; done) | (intro w; go_simp; with_reducible rfl)
      refine wpAnyH_take (i := 9) (v := ?_) rfl (by kernel_rfl) (by kernel_rfl) (by kernel_rfl) (fun _ _ _ h => h) (Yields.yieldsIf (Or.inl ⟨by kernel_rfl, ?_⟩)) hS ?_
      rotate_left
      · first | (intro w; go_simp; done) | (intro w; go_simp; with_reducible rfl)
      refine wpAnyH_done (by kernel_rfl) ?_ _
      have hXD := hS.drew
      clear hS
      obtain ⟨B1, hB1⟩ : ∃ B, leqT l p (x + n) (y + m) = B := ⟨_, rfl⟩
      obtain ⟨B2, hB2⟩ : ∃ B, leqT r q (x + n) (y + m) = B := ⟨_, rfl⟩
      rw [hB1] at HC1 HR
      rw [hB2] at HC2 HR
      clear hB1 hB2
      go_wp2
      refine wp_region_held_drew (S := fun W => XS w [(w.heap.size, 0, .int .i64 n), (w.heap.size, 1, .slice (some ⟨b1, off1, none⟩) 2 c1), (w.heap.size + 1, 0, .int .i64 m), (w.heap.size + 1, 1, .slice (some ⟨b2, off2, none⟩) 2 c2)] [w.heap.size, w.heap.size + 1] W) (by kernel_rfl) hXD (fun hS => ?_)
      clear hXD
      generalize wd.drew = we at hS ⊢
      cases B1 with
      | true =>
        refine wpAnyH_take (i := 0) (v := ?_) rfl (by kernel_rfl) (by kernel_rfl) (by kernel_rfl) (fun _ _ _ h => h) (Yields.yieldsIf (Or.inl ⟨by kernel_rfl, ?_⟩)) hS ?_
        rotate_left
        · first | (intro w; go_simp; done) | (intro w; go_simp; with_reducible rfl)
        refine wpAnyH_take (i := 1) (v := ?_) rfl (by kernel_rfl) (by kernel_rfl) (by kernel_rfl) (fun _ _ _ h => h) (Or.inl ⟨by kernel_rfl, fun W hW => ?_⟩) hS ?_
        rotate_left
        · obtain ⟨f0, f1, f2, f3, f4, f5, f6, f7, f8, f9, f10, f11⟩ := HF.out W hW
          first | (go_simp; done) | (go_simp; with_reducible rfl)
        refine wpAnyH_take (i := 2) (v := ?_) rfl (by kernel_rfl) (by kernel_rfl) (by kernel_rfl) (fun _ _ _ h => h) (Yields.yieldsIf (Or.inl ⟨by kernel_rfl, ?_⟩)) hS ?_
        rotate_left
        · first | (intro w; go_simp; done) | (intro w; go_simp; with_reducible rfl)
        refine wpAnyH_take (i := 3) (v := ?_) rfl (by kernel_rfl) (by kernel_rfl) (by kernel_rfl) (fun _ _ _ h => h) (Or.inl ⟨by kernel_rfl, fun W hW => ?_⟩) hS ?_
        rotate_left
        · obtain ⟨f0, f1, f2, f3, f4, f5, f6, f7, f8, f9, f10, f11⟩ := HF.out W hW
          first | (go_simp; done) | (go_simp; with_reducible rfl)
        refine wpAnyH_take (i := 4) (v := ?_) rfl (by kernel_rfl) (by kernel_rfl) (by kernel_rfl) (fun _ _ _ h => h) (Yields.yieldsIf (Or.inl ⟨by kernel_rfl, ?_⟩)) hS ?_
        rotate_left
        · first | (intro w; go_simp; done) | (intro w; go_simp; with_reducible rfl)
        refine wpAnyH_take (i := 5) (v := ?_) rfl (by kernel_rfl) (by kernel_rfl) (by kernel_rfl) (fun _ _ _ h => h) (Or.inl ⟨by kernel_rfl, fun W hW => ?_⟩) hS ?_
        rotate_left
        · obtain ⟨f0, f1, f2, f3, f4, f5, f6, f7, f8, f9, f10, f11⟩ := HF.out W hW
          first | (go_simp; done) | (go_simp; with_reducible rfl)
        refine wpAnyH_take (i := 6) (v := ?_) rfl (by kernel_rfl) (by kernel_rfl) (by kernel_rfl) (fun _ _ _ h => h) (Yields.yieldsIf (Or.inl ⟨by kernel_rfl, ?_⟩)) hS ?_
        rotate_left
        · first | (intro w; go_simp; done) | (intro w; go_simp; with_reducible rfl)
        refine wpAnyH_take (i := 7) (v := ?_) rfl (by kernel_rfl) (by kernel_rfl) (by kernel_rfl) (fun _ _ _ h => h) (Or.inl ⟨by kernel_rfl, fun W hW => ?_⟩) hS ?_
        rotate_left
        · obtain ⟨f0, f1, f2, f3, f4, f5, f6, f7, f8, f9, f10, f11⟩ := HF.out W hW
          first | (go_simp; done) | (go_simp; with_reducible rfl)
        refine wpAnyH_take (i := 8) (v := ?_) rfl (by kernel_rfl) (by kernel_rfl) (by kernel_rfl) (fun _ _ _ h => h) (Yields.yieldsIf (Or.inl ⟨by kernel_rfl, ?_⟩)) hS ?_
        rotate_left
        · first | (intro w; go_simp; done) | (intro w; go_simp; with_reducible rfl)
        refine wpAnyH_take (i := 9) (v := ?_) rfl (by kernel_rfl) (by kernel_rfl) (by kernel_rfl) (fun _ _ _ h => h) (Yields.yieldsIf (Or.inl ⟨by kernel_rfl, ?_⟩)) hS ?_
        rotate_left
        · first | (intro w; go_simp; done) | (intro w; go_simp; with_reducible rfl)
        refine wpAnyH_ready (rs := [10]) (by kernel_rfl) (by simp) ?_
        refine AllReadyH.cons rfl (fun K hK => ?_) AllReadyH.nil
        go_simp
        go_wp2_with (go_at_call 66; refine (HC1.out _ hS.bel).mono ?_; rintro e w5 ⟨rfl, hb5⟩)
        have hS3 := hS.next hb5
        clear hb5 hS HC1
        refine hK.out _ _ hS3 (fun hS => ?_)
        clear hK K hS3
        refine wpAnyH_take (i := 11) (v := ?_) rfl (by kernel_rfl) (by kernel_rfl) (by kernel_rfl) (fun _ _ _ h => h) (Yields.yieldsIf (Or.inl ⟨by kernel_rfl, ?_⟩)) hS ?_
        rotate_left
        · first | (intro w; go_simp; done) | (intro w; go_simp; with_reducible rfl)
        refine wpAnyH_take (i := 12) (v := ?_) rfl (by kernel_rfl) (by kernel_rfl) (by kernel_rfl) (fun _ _ _ h => h) (Yields.yieldsIf (Or.inl ⟨by kernel_rfl, ?_⟩)) hS ?_
        rotate_left
        · first | (intro w; go_simp; done) | (intro w; go_simp; with_reducible rfl)
        refine wpAnyH_take (i := 13) (v := ?_) rfl (by kernel_rfl) (by kernel_rfl) (by kernel_rfl) (fun _ _ _ h => h) (Or.inl ⟨by kernel_rfl, fun W hW => ?_⟩) hS ?_
        rotate_left
        · obtain ⟨f0, f1, f2, f3, f4, f5, f6, f7, f8, f9, f10, f11⟩ := HF.out W hW
          first | (go_simp; done) | (go_simp; with_reducible rfl)
        refine wpAnyH_take (i := 14) (v := ?_) rfl (by kernel_rfl) (by kernel_rfl) (by kernel_rfl) (fun _ _ _ h => h) (Yields.yieldsIf (Or.inl ⟨by kernel_rfl, ?_⟩)) hS ?_
        rotate_left
        · first | (intro w; go_simp; done) | (intro w; go_simp; with_reducible rfl)
        refine wpAnyH_take (i := 15) (v := ?_) rfl (by kernel_rfl) (by kernel_rfl) (by kernel_rfl) (fun _ _ _ h => h) (Or.inl ⟨by kernel_rfl, fun W hW => ?_⟩) hS ?_
        rotate_left
        · obtain ⟨f0, f1, f2, f3, f4, f5, f6, f7, f8, f9, f10, f11⟩ := HF.out W hW
          first | (go_simp; done) | (go_simp; with_reducible rfl)
        refine wpAnyH_take (i := 16) (v := ?_) rfl (by kernel_rfl) (by kernel_rfl) (by kernel_rfl) (fun _ _ _ h => h) (Yields.yieldsIf (Or.inl ⟨by kernel_rfl, ?_⟩)) hS ?_
        rotate_left
        · first | (intro w; go_simp; done) | (intro w; go_simp; with_reducible rfl)
        refine wpAnyH_take (i := 17) (v := ?_) rfl (by kernel_rfl) (by kernel_rfl) (by kernel_rfl) (fun _ _ _ h => h) (Or.inl ⟨by kernel_rfl, fun W hW => ?_⟩) hS ?_
        rotate_left
        · obtain ⟨f0, f1, f2, f3, f4, f5, f6, f7, f8, f9, f10, f11⟩ := HF.out W hW
          first | (go_simp; done) | (go_simp; with_reducible rfl)
        refine wpAnyH_take (i := 18) (v := ?_) rfl (by kernel_rfl) (by kernel_rfl) (by kernel_rfl) (fun _ _ _ h => h) (Yields.yieldsIf (Or.inl ⟨by kernel_rfl, ?_⟩)) hS ?_
        rotate_left
        · first | (intro w; go_simp; done) | (intro w; go_simp; with_reducible rfl)
        refine wpAnyH_take (i := 19) (v := ?_) rfl (by kernel_rfl) (by kernel_rfl) (by kernel_rfl) (fun _ _ _ h => h) (Or.inl ⟨by kernel_rfl, fun W hW => ?_⟩) hS ?_
        rotate_left
        · obtain ⟨f0, f1, f2, f3, f4, f5, f6, f7, f8, f9, f10, f11⟩ := HF.out W hW
          first | (go_simp; done) | (go_simp; with_reducible rfl)
        refine wpAnyH_take (i := 20) (v := ?_) rfl (by kernel_rfl) (by kernel_rfl) (by kernel_rfl) (fun _ _ _ h => h) (Yields.yieldsIf (Or.inl ⟨by kernel_rfl, ?_⟩)) hS ?_
        rotate_left
        · first | (intro w; go_simp; done) | (intro w; go_simp; with_reducible rfl)
        refine wpAnyH_take (i := 21) (v := ?_) rfl (by kernel_rfl) (by kernel_rfl) (by kernel_rfl) (fun _ _ _ h => h) (Yields.yieldsIf (Or.inl ⟨by kernel_rfl, ?_⟩)) hS ?_
        rotate_left
        · first | (intro w; go_simp; done) | (intro w; go_simp; with_reducible rfl)
        refine wpAnyH_ready (rs := [22]) (by kernel_rfl) (by simp) ?_
        refine AllReadyH.cons rfl (fun K hK => ?_) AllReadyH.nil
        go_simp
        go_wp2_with (go_at_call 66; refine (HC2.out _ hS.bel).mono ?_; rintro e w6 ⟨rfl, hb6⟩)
        have hS3 := hS.next hb6
        clear hb6 hS HC2
        refine hK.out _ _ hS3 (fun hS => ?_)
        clear hK K hS3
        refine wpAnyH_take (i := 23) (v := ?_) rfl (by kernel_rfl) (by kernel_rfl) (by kernel_rfl) (fun _ _ _ h => h) (Yields.yieldsIf (Or.inl ⟨by kernel_rfl, ?_⟩)) hS ?_
        rotate_left
        · first | (intro w; go_simp; done) | (intro w; go_simp; with_reducible rfl)
        refine wpAnyH_take (i := 24) (v := ?_) rfl (by kernel_rfl) (by kernel_rfl) (by kernel_rfl) (fun _ _ _ h => h) (Yields.yieldsIf (Or.inl ⟨by kernel_rfl, ?_⟩)) hS ?_
        rotate_left
        · first | (intro w; go_simp; done) | (intro w; go_simp; with_reducible rfl)
        refine wpAnyH_done (by kernel_rfl) ?_ _
        go_wp2
        go_ret
        exact ⟨ret_bool (by rw [HR.out]; rfl), hS.bel⟩
      | false =>
        refine wpAnyH_take (i := 0) (v := ?_) rfl (by kernel_rfl) (by kernel_rfl) (by kernel_rfl) (fun _ _ _ h => h) (Yields.yieldsIf (Or.inl ⟨by kernel_rfl, ?_⟩)) hS ?_
        rotate_left
        · first | (intro w; go_simp; done) | (intro w; go_simp; with_reducible rfl)
        refine wpAnyH_take (i := 1) (v := ?_) rfl (by kernel_rfl) (by kernel_rfl) (by kernel_rfl) (fun _ _ _ h => h) (Or.inl ⟨by kernel_rfl, fun W hW => ?_⟩) hS ?_
        rotate_left
        · obtain ⟨f0, f1, f2, f3, f4, f5, f6, f7, f8, f9, f10, f11⟩ := HF.out W hW
          first | (go_simp; done) | (go_simp; with_reducible rfl)
        refine wpAnyH_take (i := 2) (v := ?_) rfl (by kernel_rfl) (by kernel_rfl) (by kernel_rfl) (fun _ _ _ h => h) (Yields.yieldsIf (Or.inl ⟨by kernel_rfl, ?_⟩)) hS ?_
        rotate_left
        · first | (intro w; go_simp; done) | (intro w; go_simp; with_reducible rfl)
        refine wpAnyH_take (i := 3) (v := ?_) rfl (by kernel_rfl) (by kernel_rfl) (by kernel_rfl) (fun _ _ _ h => h) (Or.inl ⟨by kernel_rfl, fun W hW => ?_⟩) hS ?_
        rotate_left
        · obtain ⟨f0, f1, f2, f3, f4, f5, f6, f7, f8, f9, f10, f11⟩ := HF.out W hW
          first | (go_simp; done) | (go_simp; with_reducible rfl)
        refine wpAnyH_take (i := 4) (v := ?_) rfl (by kernel_rfl) (by kernel_rfl) (by kernel_rfl) (fun _ _ _ h => h) (Yields.yieldsIf (Or.inl ⟨by kernel_rfl, ?_⟩)) hS ?_
        rotate_left
        · first | (intro w; go_simp; done) | (intro w; go_simp; with_reducible rfl)
        refine wpAnyH_take (i := 5) (v := ?_) rfl (by kernel_rfl) (by kernel_rfl) (by kernel_rfl) (fun _ _ _ h => h) (Or.inl ⟨by kernel_rfl, fun W hW => ?_⟩) hS ?_
        rotate_left
        · obtain ⟨f0, f1, f2, f3, f4, f5, f6, f7, f8, f9, f10, f11⟩ := HF.out W hW
          first | (go_simp; done) | (go_simp; with_reducible rfl)
        refine wpAnyH_take (i := 6) (v := ?_) rfl (by kernel_rfl) (by kernel_rfl) (by kernel_rfl) (fun _ _ _ h => h) (Yields.yieldsIf (Or.inl ⟨by kernel_rfl, ?_⟩)) hS ?_
        rotate_left
        · first | (intro w; go_simp; done) | (intro w; go_simp; with_reducible rfl)
        refine wpAnyH_take (i := 7) (v := ?_) rfl (by kernel_rfl) (by kernel_rfl) (by kernel_rfl) (fun _ _ _ h => h) (Or.inl ⟨by kernel_rfl, fun W hW => ?_⟩) hS ?_
        rotate_left
        · obtain ⟨f0, f1, f2, f3, f4, f5, f6, f7, f8, f9, f10, f11⟩ := HF.out W hW
          first | (go_simp; done) | (go_simp; with_reducible rfl)
        refine wpAnyH_take (i := 8) (v := ?_) rfl (by kernel_rfl) (by kernel_rfl) (by kernel_rfl) (fun _ _ _ h => h) (Yields.yieldsIf (Or.inl ⟨by kernel_rfl, ?_⟩)) hS ?_
        rotate_left
        · first | (intro w; go_simp; done) | (intro w; go_simp; with_reducible rfl)
        refine wpAnyH_take (i := 9) (v := ?_) rfl (by kernel_rfl) (by kernel_rfl) (by kernel_rfl) (fun _ _ _ h => h) (Yields.yieldsIf (Or.inl ⟨by kernel_rfl, ?_⟩)) hS ?_
        rotate_left
        · first | (intro w; go_simp; done) | (intro w; go_simp; with_reducible rfl)
        refine wpAnyH_ready (rs := [10]) (by kernel_rfl) (by simp) ?_
        refine AllReadyH.cons rfl (fun K hK => ?_) AllReadyH.nil
        go_simp
        go_wp2_with (go_at_call 66; refine (HC1.out _ hS.bel).mono ?_; rintro e w5 ⟨rfl, hb5⟩)
        have hS3 := hS.next hb5
        clear hb5 hS HC1
        refine hK.out _ _ hS3 (fun hS => ?_)
        clear hK K hS3
        refine wpAnyH_take (i := 11) (v := ?_) rfl (by kernel_rfl) (by kernel_rfl) (by kernel_rfl) (fun _ _ _ h => h) (Yields.yieldsIf (Or.inl ⟨by kernel_rfl, ?_⟩)) hS ?_
        rotate_left
        · first | (intro w; go_simp; done) | (intro w; go_simp; with_reducible rfl)
        refine wpAnyH_take (i := 12) (v := undef) rfl (by kernel_rfl) (by kernel_rfl) (by kernel_rfl) (fun _ _ _ h => h) (Or.inr ⟨by kernel_rfl, rfl⟩) hS ?_
        refine wpAnyH_take (i := 13) (v := undef) rfl (by kernel_rfl) (by kernel_rfl) (by kernel_rfl) (fun _ _ _ h => h) (Or.inr ⟨by kernel_rfl, rfl⟩) hS ?_
        refine wpAnyH_take (i := 14) (v := undef) rfl (by kernel_rfl) (by kernel_rfl) (by kernel_rfl) (fun _ _ _ h => h) (Or.inr ⟨by kernel_rfl, rfl⟩) hS ?_
        refine wpAnyH_take (i := 15) (v := undef) rfl (by kernel_rfl) (by kernel_rfl) (by kernel_rfl) (fun _ _ _ h => h) (Or.inr ⟨by kernel_rfl, rfl⟩) hS ?_
        refine wpAnyH_take (i := 16) (v := undef) rfl (by kernel_rfl) (by kernel_rfl) (by kernel_rfl) (fun _ _ _ h => h) (Or.inr ⟨by kernel_rfl, rfl⟩) hS ?_
        refine wpAnyH_take (i := 17) (v := undef) rfl (by kernel_rfl) (by kernel_rfl) (by kernel_rfl) (fun _ _ _ h => h) (Or.inr ⟨by kernel_rfl, rfl⟩) hS ?_
        refine wpAnyH_take (i := 18) (v := undef) rfl (by kernel_rfl) (by kernel_rfl) (by kernel_rfl) (fun _ _ _ h => h) (Or.inr ⟨by kernel_rfl, rfl⟩) hS ?_
        refine wpAnyH_take (i := 19) (v := undef) rfl (by kernel_rfl) (by kernel_rfl) (by kernel_rfl) (fun _ _ _ h => h) (Or.inr ⟨by kernel_rfl, rfl⟩) hS ?_
        refine wpAnyH_take (i := 20) (v := undef) rfl (by kernel_rfl) (by kernel_rfl) (by kernel_rfl) (fun _ _ _ h => h) (Or.inr ⟨by kernel_rfl, rfl⟩) hS ?_
        refine wpAnyH_take (i := 21) (v := undef) rfl (by kernel_rfl) (by kernel_rfl) (by kernel_rfl) (fun _ _ _ h => h) (Or.inr ⟨by kernel_rfl, rfl⟩) hS ?_
        refine wpAnyH_take (i := 22) (v := undef) rfl (by kernel_rfl) (by kernel_rfl) (by kernel_rfl) (fun _ _ _ h => h) (Or.inr ⟨by kernel_rfl, rfl⟩) hS ?_
        go_simp
        refine wpAnyH_take (i := 23) (v := ?_) rfl (by kernel_rfl) (by kernel_rfl) (by kernel_rfl) (fun _ _ _ h => h) (Yields.yieldsIf (Or.inl ⟨by kernel_rfl, ?_⟩)) hS ?_
        rotate_left
        · first | (intro w; go_simp; done) | (intro w; go_simp; with_reducible rfl)
        refine wpAnyH_take (i := 24) (v := ?_) rfl (by kernel_rfl) (by kernel_rfl) (by kernel_rfl) (fun _ _ _ h => h) (Yields.yieldsIf (Or.inl ⟨by kernel_rfl, ?_⟩)) hS ?_
        rotate_left
        · first | (intro w; go_simp; done) | (intro w; go_simp; with_reducible rfl)
        go_simp
        refine wpAnyH_done (by kernel_rfl) ?_ _
        go_wp2
        go_ret
        exact ⟨ret_bool (by rw [HR.out]; rfl), hS.bel⟩
end Go.Proofs.YtoaglkjpjolacaaDoor.E
namespace Go.Proofs.YtoaglkjpjolacaaDoor.E
open Go.RowKit
def normR : Option Tr → Tr × Int
  | some t => (t.norm, 0)
  | none => (.leaf 0, 2)
def endsR : Option Tr → Value
  | some t => .tuple #[.int .i64 (low t), .int .i64 (high t), .int .i64 0]
  | none => .tuple #[.int .i64 0, .int .i64 0, .int .i64 2]
def leqO : Option Tr → Option Tr → Bool
  | some a, some b => leqT a b 0 0
  | _, _ => false
def sameO (a b : Option Tr) : Bool := leqO a b && leqO b a
def joinR : Option Tr → Option Tr → Tr × Int
  | some a, some b => if okT (Tr.join a b 0 0) = true then (Tr.join a b 0 0, 0) else (.leaf 0, 2)
  | _, _ => (.leaf 0, 2)
set_option maxRecDepth 100000 in
set_option maxHeartbeats 1600000 in
theorem norm_arg {w : World} {T : Option Tr} {v : Value} (h : Arg w T v) : Calls Tryd.prog 24 #[v] w (Ans (normR T) w) := by
  obtain ⟨o, A, n, c, rfl⟩ := h.form
  have HA := Lib.hid h
  have HX := Lib.hid (((XS.begin w).boxed (.int .i64 o) (.slice A n c) 27).fresh (.int .i64 0) (.slice none 0 0) 27)
  simp only [List.nil_append, List.cons_append, World.size_alloc] at HX
  have hc1 := right_arg (h.up HX.out.bel)
  unfold tv at *
  clear h
  cases T with
  | none =>
    go_enter Tryd.func24, Tryd.ntmps24
    go_wp2_with fail
    refine hc1.mono ?_
    rintro e w1 ⟨rfl, hb1⟩
    have HX1 := Lib.hid (HX.out.next hb1)
    clear hb1 hc1 HX
    obtain ⟨u0, u1, ⟨c0, c1'⟩, f0, f1⟩ := HX1.out.facts (w.heap.size + 1) (by simp)
    have HFIN : Hid (∀ u1 u2, InP (fun _ => False) ((w1.setCell ⟨w.heap.size + 1, 0, none⟩ u1).setCell ⟨w.heap.size + 1, 1, none⟩ u2) (.leaf 0) (tv 0 none 0 0) ∧ Below w.heap.size w ((w1.setCell ⟨w.heap.size + 1, 0, none⟩ u1).setCell ⟨w.heap.size + 1, 1, none⟩ u2)) := fun u1 u2 => HX1.out.fin (P := fun _ => False) (t := .leaf 0) (x := tv 0 none 0 0) _ (by simp) ⟨none, 0, rfl⟩ _ _
    clear HX1
    go_wp2
    refine bodyPost_ret (v := .tuple #[tv 0 none 0 0, .int .i64 2]) (by simp [results, Tryd.f24, go_sem, tv, c0, c1']) rfl ?_
    exact ⟨_, rfl, (HFIN.out _ _).1.more fun _ h => h.elim, (HFIN.out _ _).2⟩
  | some t =>
    have hok := HA.out.inT.2
    go_enter Tryd.func24, Tryd.ntmps24
    go_wp2_with fail
    refine hc1.mono ?_
    rintro e w1 ⟨rfl, hb1⟩
    have HX1 := Lib.hid (HX.out.next hb1)
    clear hb1 hc1 HX
    have f := HX1.out.at0
    simp only [List.mem_cons, List.not_mem_nil, or_false, forall_eq_or_imp, forall_eq] at f
    obtain ⟨p0, p1⟩ := f
    have hc2 := norm_any t 4611686018427387904 _ _ w1 (HA.out.up HX1.out.bel).inT.1 ((okT_iff t).1 hok).2.1 (by omega)
    clear hok
    go_wp2_with fail
    refine hc2.mono ?_
    rintro e w3 ⟨v3, rfl, ht3, hb3⟩
    obtain ⟨A3, n3, c3, rfl⟩ := ht3.form
    have HX3 := Lib.hid (HX1.out.next hb3)
    have HT3 : Hid (InP (New w w3) w3 t.norm (tv t.norm.N A3 n3 c3)) := ht3.more fun b hb => ⟨Nat.le_trans HX1.out.bel.size hb.1, hb.2⟩
    have HNR : Hid (normR (some t) = (t.norm, 0)) := rfl
    obtain ⟨z, hz⟩ : ∃ z, t.norm.N = z := ⟨_, rfl⟩
    rw [hz] at HT3 ⊢
    clear hb3 ht3 hc2 HX1 p0 p1 hz
    obtain ⟨u0, u1, ⟨c0, c1'⟩, f0, f1⟩ := HX3.out.facts (w.heap.size + 1) (by simp)
    have HFIN : Hid (∀ u1 u2, InP (New w w3) ((w3.setCell ⟨w.heap.size + 1, 0, none⟩ u1).setCell ⟨w.heap.size + 1, 1, none⟩ u2) t.norm (tv z A3 n3 c3) ∧ Below w.heap.size w ((w3.setCell ⟨w.heap.size + 1, 0, none⟩ u1).setCell ⟨w.heap.size + 1, 1, none⟩ u2)) := fun u1 u2 => HX3.out.fin (w.heap.size + 1) (by simp) HT3.out _ _
    clear HX3 HT3
    unfold tv
    go_wp2
    refine bodyPost_ret (v := .tuple #[tv z A3 n3 c3, .int .i64 0]) (by simp [results, Tryd.f24, go_sem, tv, c0, c1']) rfl ?_
    rw [HNR.out]
    exact ⟨_, rfl, (HFIN.out _ _).1.more fun b hb => ⟨hb.1, by rw [size_set, size_set]; exact hb.2⟩, (HFIN.out _ _).2⟩

set_option maxRecDepth 100000 in
set_option maxHeartbeats 1600000 in
theorem ends_arg {w : World} {T : Option Tr} {v : Value} (h : Arg w T v) : Calls Tryd.prog 92 #[v] w fun e w' => e = .returned (endsR T) ∧ Below w.heap.size w w' := by
  obtain ⟨o, A, n, c, rfl⟩ := h.form
  have HA := Lib.hid h
  have HX := Lib.hid ((XS.begin w).boxed (.int .i64 o) (.slice A n c) 27)
  simp only [List.nil_append] at HX
  have hc1 := right_arg (h.up HX.out.bel)
  unfold tv at *
  clear h
  cases T with
  | none =>
    go_enter Tryd.func92, Tryd.ntmps92
    go_wp2_with fail
    refine hc1.mono ?_
    rintro e w1 ⟨rfl, hb1⟩
    have HX1 := Lib.hid (HX.out.next hb1)
    clear hb1 hc1 HX
    go_wp2
    refine bodyPost_ret (results_tmp3 rfl _ _ _) rfl ?_
    exact ⟨rfl, HX1.out.bel⟩
  | some t =>
    have hok := HA.out.inT.2
    go_enter Tryd.func92, Tryd.ntmps92
    go_wp2_with fail
    refine hc1.mono ?_
    rintro e w1 ⟨rfl, hb1⟩
    have HX1 := Lib.hid (HX.out.next hb1)
    clear hb1 hc1 HX
    have f := HX1.out.at0
    simp only [List.mem_cons, List.not_mem_nil, or_false, forall_eq_or_imp, forall_eq] at f
    obtain ⟨p0, p1⟩ := f
    have hc2 := ends_any t 0 _ _ w1 (HA.out.up HX1.out.bel).inT.1 (by omega) (by omega) ((okT_iff t).1 hok).2.1
    simp only [Int.zero_add] at hc2
    have HE : Hid (endsR (some t) = .tuple #[.int .i64 (low t), .int .i64 (high t), .int .i64 0]) := rfl
    generalize low t = L at *
    generalize high t = M at *
    clear hok
    go_wp2_with fail
    refine hc2.mono ?_
    rintro e w3 ⟨rfl, hb3⟩
    have HX3 := Lib.hid (HX1.out.next hb3)
    clear hb3 hc2 HX1 p0 p1
    go_wp2
    refine bodyPost_ret (results_tmp3 rfl _ _ _) rfl ?_
    exact ⟨by rw [HE.out]; rfl, HX3.out.bel⟩

set_option maxRecDepth 100000 in
set_option maxHeartbeats 1600000 in
theorem leq_arg {w : World} {S T : Option Tr} {u v : Value} (hu : Arg w S u) (hv : Arg w T v) : Calls Tryd.prog 34 #[u, v] w fun e w' => e = .returned (.bool (leqO S T)) ∧ Below w.heap.size w w' := by
  obtain ⟨o1, A1, n1, c1, rfl⟩ := hu.form
  obtain ⟨o2, A2, n2, c2, rfl⟩ := hv.form
  have HA := Lib.hid hu
  have HB := Lib.hid hv
  have HX := Lib.hid (((XS.begin w).boxed (.int .i64 o1) (.slice A1 n1 c1) 27).boxed (.int .i64 o2) (.slice A2 n2 c2) 27)
  simp only [List.nil_append, List.cons_append, World.size_alloc] at HX
  have hc1 := right_arg (hu.up HX.out.bel)
  unfold tv at *
  clear hu hv
  go_enter Tryd.func34, Tryd.ntmps34
  go_wp2_with fail
  refine hc1.mono ?_
  rintro e w1 ⟨rfl, hb1⟩
  have HX1 := Lib.hid (HX.out.next hb1)
  clear hb1 hc1 HX
  have f := HX1.out.at0
  simp only [List.mem_cons, List.not_mem_nil, or_false, forall_eq_or_imp, forall_eq] at f
  obtain ⟨p0, p1, p2, p3⟩ := f
  cases S with
  | none =>
    go_wp2
    go_ret
    exact ⟨rfl, HX1.out.bel⟩
  | some a =>
    have hc2 := right_arg (HB.out.up HX1.out.bel)
    go_wp2_with fail
    refine hc2.mono ?_
    rintro e w2 ⟨rfl, hb2⟩
    have HX2 := Lib.hid (HX1.out.next hb2)
    clear hb2 hc2 HX1 p0 p1 p2 p3
    have f := HX2.out.at0
    simp only [List.mem_cons, List.not_mem_nil, or_false, forall_eq_or_imp, forall_eq] at f
    obtain ⟨p0, p1, p2, p3⟩ := f
    cases T with
    | none =>
      go_wp2
      go_ret
      exact ⟨rfl, HX2.out.bel⟩
    | some b =>
      have ha := (HA.out.up HX2.out.bel).inT
      have hb := (HB.out.up HX2.out.bel).inT
      have hc3 := leq_any a b 0 0 _ _ _ w2 ha.1 hb.1 (by omega) (by omega) (by omega) (by omega) ((okT_iff a).1 ha.2).2.1 ((okT_iff b).1 hb.2).2.1
      have HL : Hid (leqO (some a) (some b) = leqT a b 0 0) := rfl
      generalize leqT a b 0 0 = r at *
      clear ha hb
      go_wp2_with fail
      refine hc3.mono ?_
      rintro e w3 ⟨rfl, hb3⟩
      have HX3 := Lib.hid (HX2.out.next hb3)
      clear hb3 hc3 HX2 p0 p1 p2 p3
      go_wp2
      go_ret
      exact ⟨ret_bool (by rw [HL.out]), HX3.out.bel⟩

set_option maxRecDepth 100000 in
set_option maxHeartbeats 1600000 in
theorem same_arg {w : World} {S T : Option Tr} {u v : Value} (hu : Arg w S u) (hv : Arg w T v) : Calls Tryd.prog 20 #[u, v] w fun e w' => e = .returned (.bool (sameO S T)) ∧ Below w.heap.size w w' := by
  obtain ⟨o1, A1, n1, c1, rfl⟩ := hu.form
  obtain ⟨o2, A2, n2, c2, rfl⟩ := hv.form
  have HX := Lib.hid (((XS.begin w).boxed (.int .i64 o1) (.slice A1 n1 c1) 27).boxed (.int .i64 o2) (.slice A2 n2 c2) 27)
  simp only [List.nil_append, List.cons_append, World.size_alloc] at HX
  have hc1 := leq_arg (hu.up HX.out.bel) (hv.up HX.out.bel)
  have HC2 : Hid (∀ W, Below w.heap.size w W → Calls Tryd.prog 34 #[tv o2 A2 n2 c2, tv o1 A1 n1 c1] W fun e w' => e = .returned (.bool (leqO T S)) ∧ Below W.heap.size W w') := fun W hW => leq_arg (hv.up hW) (hu.up hW)
  have HS : Hid (sameO S T = (leqO S T && leqO T S)) := rfl
  rw [HS.out]
  unfold tv at *
  clear hu hv HS
  generalize leqO S T = r1 at *
  generalize leqO T S = r2 at *
  go_enter Tryd.func20, Tryd.ntmps20
  go_wp2_with fail
  refine hc1.mono ?_
  rintro e w1 ⟨rfl, hb1⟩
  have HX1 := Lib.hid (HX.out.next hb1)
  clear hb1 hc1 HX
  have f := HX1.out.at0
  simp only [List.mem_cons, List.not_mem_nil, or_false, forall_eq_or_imp, forall_eq] at f
  obtain ⟨p0, p1, p2, p3⟩ := f
  cases r1 with
  | false =>
    go_wp2
    go_ret
    exact ⟨rfl, HX1.out.bel⟩
  | true =>
    have hc2 := HC2.out w1 HX1.out.bel
    go_wp2_with fail
    refine hc2.mono ?_
    rintro e w2 ⟨rfl, hb2⟩
    have HX2 := Lib.hid (HX1.out.next hb2)
    clear hb2 hc2 HX1 p0 p1 p2 p3
    go_wp2
    go_ret
    exact ⟨ret_bool (by simp), HX2.out.bel⟩

set_option maxRecDepth 100000 in
set_option maxHeartbeats 1600000 in
theorem join_arg {w : World} {S T : Option Tr} {u v : Value} (hu : Arg w S u) (hv : Arg w T v) : Calls Tryd.prog 44 #[u, v] w (Ans (joinR S T) w) := by
  obtain ⟨o1, A1, n1, c1, rfl⟩ := hu.form
  obtain ⟨o2, A2, n2, c2, rfl⟩ := hv.form
  have HA := Lib.hid hu
  have HB := Lib.hid hv
  have HX := Lib.hid ((((XS.begin w).boxed (.int .i64 o1) (.slice A1 n1 c1) 27).boxed (.int .i64 o2) (.slice A2 n2 c2) 27).fresh (.int .i64 0) (.slice none 0 0) 27)
  simp only [List.nil_append, List.cons_append, World.size_alloc] at HX
  have hc1 := right_arg (hu.up HX.out.bel)
  unfold tv at *
  clear hu hv
  go_enter Tryd.func44, Tryd.ntmps44
  go_wp2_with fail
  refine hc1.mono ?_
  rintro e w1 ⟨rfl, hb1⟩
  have HX1 := Lib.hid (HX.out.next hb1)
  clear hb1 hc1 HX
  have f := HX1.out.at0
  simp only [List.mem_cons, List.not_mem_nil, or_false, forall_eq_or_imp, forall_eq] at f
  obtain ⟨p0, p1, p2, p3⟩ := f
  cases S with
  | none =>
    obtain ⟨u0, u1, ⟨c0, c1'⟩, f0, f1⟩ := HX1.out.facts (w.heap.size + 1 + 1) (by simp)
    have HFIN : Hid (∀ u1 u2, InP (fun _ => False) ((w1.setCell ⟨w.heap.size + 1 + 1, 0, none⟩ u1).setCell ⟨w.heap.size + 1 + 1, 1, none⟩ u2) (.leaf 0) (tv 0 none 0 0) ∧ Below w.heap.size w ((w1.setCell ⟨w.heap.size + 1 + 1, 0, none⟩ u1).setCell ⟨w.heap.size + 1 + 1, 1, none⟩ u2)) := fun u1 u2 => HX1.out.fin (P := fun _ => False) (t := .leaf 0) (x := tv 0 none 0 0) _ (by simp) ⟨none, 0, rfl⟩ _ _
    clear HX1
    go_wp2
    refine bodyPost_ret (v := .tuple #[tv 0 none 0 0, .int .i64 2]) (by simp [results, Tryd.f44, go_sem, tv, c0, c1']) rfl ?_
    exact ⟨_, rfl, (HFIN.out _ _).1.more fun _ h => h.elim, (HFIN.out _ _).2⟩
  | some a =>
    have hc2 := right_arg (HB.out.up HX1.out.bel)
    go_wp2_with fail
    refine hc2.mono ?_
    rintro e w2 ⟨rfl, hb2⟩
    have HX2 := Lib.hid (HX1.out.next hb2)
    clear hb2 hc2 HX1 p0 p1 p2 p3
    have f := HX2.out.at0
    simp only [List.mem_cons, List.not_mem_nil, or_false, forall_eq_or_imp, forall_eq] at f
    obtain ⟨p0, p1, p2, p3⟩ := f
    cases T with
    | none =>
      obtain ⟨u0, u1, ⟨c0, c1'⟩, f0, f1⟩ := HX2.out.facts (w.heap.size + 1 + 1) (by simp)
      have HFIN : Hid (∀ u1 u2, InP (fun _ => False) ((w2.setCell ⟨w.heap.size + 1 + 1, 0, none⟩ u1).setCell ⟨w.heap.size + 1 + 1, 1, none⟩ u2) (.leaf 0) (tv 0 none 0 0) ∧ Below w.heap.size w ((w2.setCell ⟨w.heap.size + 1 + 1, 0, none⟩ u1).setCell ⟨w.heap.size + 1 + 1, 1, none⟩ u2)) := fun u1 u2 => HX2.out.fin (P := fun _ => False) (t := .leaf 0) (x := tv 0 none 0 0) _ (by simp) ⟨none, 0, rfl⟩ _ _
      clear HX2
      go_wp2
      refine bodyPost_ret (v := .tuple #[tv 0 none 0 0, .int .i64 2]) (by simp [results, Tryd.f44, go_sem, tv, c0, c1']) rfl ?_
      exact ⟨_, rfl, (HFIN.out _ _).1.more fun _ h => h.elim, (HFIN.out _ _).2⟩
    | some b =>
      have ha := (HA.out.up HX2.out.bel).inT
      have hb := (HB.out.up HX2.out.bel).inT
      have hc3 := join_any (a.nodes + b.nodes + 1) a b 0 0 _ _ _ w2 (by omega) ha.1 hb.1 (by omega) (by omega) (by omega) (by omega) ((okT_iff a).1 ha.2).2.1 ((okT_iff b).1 hb.2).2.1
      have HL : Hid (joinR (some a) (some b) = if okT (Tr.join a b 0 0) = true then (Tr.join a b 0 0, 0) else (.leaf 0, 2)) := rfl
      clear ha hb
      generalize Tr.join a b 0 0 = J at *
      go_wp2_with fail
      refine hc3.mono ?_
      rintro e w3 ⟨v3, rfl, ht3, hb3⟩
      obtain ⟨A3, n3, c3, rfl⟩ := ht3.form
      have hx3 := HX2.out.next hb3
      have hbx : Below w3.heap.size w3 (w3.alloc (.cells #[.int .i64 J.N, .slice A3 n3 c3] 27)) := (Below.refl _ w3).alloc (Nat.le_refl _) _
      have HX3 := Lib.hid (hx3.boxed (.int .i64 J.N) (.slice A3 n3 c3) 27)
      have HT3 : Hid (InP (New w w3) (w3.alloc (.cells #[.int .i64 J.N, .slice A3 n3 c3] 27)) J (tv J.N A3 n3 c3)) := (ht3.more fun b hb => ⟨Nat.le_trans HX2.out.bel.size hb.1, hb.2⟩).stay hbx
      have hc4 := right_arg (arg_of (ht3.old.up hbx))
      rw [fit_some] at hc4
      simp only [List.nil_append, List.cons_append] at HX3
      clear hb3 ht3 hc3 HX2 hx3 hbx p0 p1 p2 p3
      obtain ⟨z, hz⟩ : ∃ z, J.N = z := ⟨_, rfl⟩
      rw [hz] at HX3 HT3 hc4 ⊢
      obtain ⟨r, hr⟩ : ∃ r, okT J = r := ⟨_, rfl⟩
      rw [hr] at hc4 HL
      clear hz hr
      unfold tv at hc4 ⊢
      go_wp2_with fail
      refine hc4.mono ?_
      rintro e w4 ⟨rfl, hb4⟩
      have HX4 := Lib.hid (HX3.out.next hb4)
      have HT4 : Hid (InP (New w w4) w4 J (tv z A3 n3 c3)) := (HT3.out.stay hb4).more fun b hb => ⟨hb.1, by have := hb4.size; have := hb.2; simp at *; omega⟩
      clear hb4 hc4 HX3 HT3
      have f := HX4.out.at0
      simp only [List.mem_cons, List.not_mem_nil, or_false, forall_eq_or_imp, forall_eq] at f
      obtain ⟨p0, p1, p2, p3, p4, p5⟩ := f
      cases r with
      | false =>
        obtain ⟨u0, u1, ⟨c0, c1'⟩, f0, f1⟩ := HX4.out.facts (w.heap.size + 1 + 1) (by simp)
        have HFIN : Hid (∀ u1 u2, InP (fun _ => False) ((w4.setCell ⟨w.heap.size + 1 + 1, 0, none⟩ u1).setCell ⟨w.heap.size + 1 + 1, 1, none⟩ u2) (.leaf 0) (tv 0 none 0 0) ∧ Below w.heap.size w ((w4.setCell ⟨w.heap.size + 1 + 1, 0, none⟩ u1).setCell ⟨w.heap.size + 1 + 1, 1, none⟩ u2)) := fun u1 u2 => HX4.out.fin (P := fun _ => False) (t := .leaf 0) (x := tv 0 none 0 0) _ (by simp) ⟨none, 0, rfl⟩ _ _
        clear HX4
        go_wp2
        refine bodyPost_ret (v := .tuple #[tv 0 none 0 0, .int .i64 2]) (by simp [results, Tryd.f44, go_sem, tv, c0, c1']) rfl ?_
        rw [HL.out]
        exact ⟨_, rfl, (HFIN.out _ _).1.more fun _ h => h.elim, (HFIN.out _ _).2⟩
      | true =>
        clear p0 p1 p2 p3
        obtain ⟨u0, u1, ⟨c0, c1'⟩, f0, f1⟩ := HX4.out.facts (w.heap.size + 1 + 1) (by simp)
        have HFIN : Hid (∀ u1 u2, InP (New w w4) ((w4.setCell ⟨w.heap.size + 1 + 1, 0, none⟩ u1).setCell ⟨w.heap.size + 1 + 1, 1, none⟩ u2) J (tv z A3 n3 c3) ∧ Below w.heap.size w ((w4.setCell ⟨w.heap.size + 1 + 1, 0, none⟩ u1).setCell ⟨w.heap.size + 1 + 1, 1, none⟩ u2)) := fun u1 u2 => HX4.out.fin (w.heap.size + 1 + 1) (by simp) HT4.out _ _
        clear HX4 HT4
        go_wp2
        refine bodyPost_ret (v := .tuple #[tv z A3 n3 c3, .int .i64 0]) (by simp [results, Tryd.f44, go_sem, tv, c0, c1']) rfl ?_
        rw [HL.out]
        exact ⟨_, rfl, (HFIN.out _ _).1.more fun b hb => ⟨hb.1, by rw [size_set, size_set]; exact hb.2⟩, (HFIN.out _ _).2⟩

end Go.Proofs.YtoaglkjpjolacaaDoor.E
