/-
  The reference's text and Show.
-/
import Derived.Test.YtkpefelakhbkhaaISum
namespace Go.Proofs.Ytkpefelakhbkhaa.I
open Go.RowKit

/-- Bytes as a string, a string's bytes. -/
def strB (l : List Nat) : ByteArray := ⟨(l.map fun x : Nat => UInt8.ofNat x).toArray⟩
theorem strB_size (l : List Nat) : (strB l).size = l.length := by simp [strB, ByteArray.size]
theorem strB_append (l m : List Nat) : strB l ++ strB m = strB (l ++ m) := by
  apply ByteArray.ext
  rw [ByteArray.data_append]
  simp [strB]
def textT : Tr → List Nat
  | .leaf true => [49]
  | .leaf false => [48]
  | .node x y => 40 :: (textT x ++ 44 :: (textT y ++ [41]))
theorem textT_len : ∀ t, (textT t).length ≤ 4 * t.nodes
  | .leaf true => by simp [textT, Tr.nodes]
  | .leaf false => by simp [textT, Tr.nodes]
  | .node x y => by have := textT_len x; have := textT_len y; simp [textT, Tr.nodes]; omega

set_option maxRecDepth 100000 in
set_option maxHeartbeats 3200000 in
theorem text_any : ∀ (t : Tr) (v : Value) (w : World), t.nodes ≤ 1000000 → InT w w.heap.size t v → Calls Try.prog 50 #[v] w fun e w' => e = .returned (.string (strB (textT t))) ∧ Below w.heap.size w w' := by
  intro t
  induction t with
  | leaf o =>
    rintro v w _ ⟨A, c, rfl⟩
    unfold tv
    cases o with
    | true =>
      go_enter Try.func50, Try.ntmps50
      go_wp2
      go_ret
      exact ⟨rfl, (Below.refl _ w).alloc (Nat.le_refl _) _⟩
    | false =>
      go_enter Try.func50, Try.ntmps50
      go_wp2
      go_ret
      exact ⟨rfl, (Below.refl _ w).alloc (Nat.le_refl _) _⟩
  | node x y ihx ihy =>
    rintro v w hn ⟨b, off, c, rfl, hb, ⟨o1, A1, n1, c1, e1, e2, e3⟩, ⟨o2, A2, n2, c2, g1, g2, g3⟩⟩
    simp only [Tr.nodes] at hn
    unfold tv
    obtain ⟨W0, hW0⟩ : ∃ W0, w.alloc (.cells #[.bool false, .slice (some ⟨b, off, none⟩) 2 c] 24) = W0 := ⟨_, rfl⟩
    have hB0 : Below w.heap.size w W0 := by rw [← hW0]; exact (Below.refl _ w).alloc (Nat.le_refl _) _
    have hs0 : W0.heap.size = w.heap.size + 1 := by rw [← hW0]; simp
    have k1 : W0.cell? ⟨w.heap.size, 1, none⟩ = some (.slice (some ⟨b, off, none⟩) 2 c) := by rw [← hW0]; simp [go_sem]
    have HF : Hid (∀ W, Below (w.heap.size + 1) W0 W → W.cell? ⟨w.heap.size, 1, none⟩ = some (.slice (some ⟨b, off, none⟩) 2 c) ∧ W.cell? ⟨b, off, none⟩ = some (.bool o1) ∧ W.cell? ⟨b, off + 1, none⟩ = some (.slice A1 n1 c1) ∧ W.cell? ⟨b, off + 2, none⟩ = some (.bool o2) ∧ W.cell? ⟨b, off + 2 + 1, none⟩ = some (.slice A2 n2 c2)) := fun W hW => by
      have low : ∀ i, W.cell? ⟨b, i, none⟩ = w.cell? ⟨b, i, none⟩ := fun i => (hW.cell (by show b < _; omega)).trans (hB0.cell hb)
      exact ⟨(hW.cell (by show w.heap.size < _; omega)).trans k1, (low _).trans e1, (low _).trans e2, (low _).trans g1, (low _).trans g2⟩
    have hcx : ∀ W, Below (w.heap.size + 1) W0 W → Calls Try.prog 50 #[.agg #[.bool o1, .slice A1 n1 c1]] W fun e w' => e = .returned (.string (strB (textT x))) ∧ Below W.heap.size W w' := fun W hW => ihx _ W (by omega) (e3.up (hB0.trans (hW.mono (by omega))))
    have hcy : ∀ W, Below (w.heap.size + 1) W0 W → Calls Try.prog 50 #[.agg #[.bool o2, .slice A2 n2 c2]] W fun e w' => e = .returned (.string (strB (textT y))) ∧ Below W.heap.size W w' := fun W hW => ihy _ W (by omega) (g3.up (hB0.trans (hW.mono (by omega))))
    have lx := textT_len x
    have ly := textT_len y
    have HE : Hid (strB (textT (.node x y)) = (((strB [40] ++ strB (textT x)) ++ strB [44]) ++ strB (textT y)) ++ strB [41]) := by
      show _ = _
      rw [strB_append, strB_append, strB_append, strB_append]
      simp [textT]
    have z1 := strB_size (textT x)
    have z2 := strB_size (textT y)
    obtain ⟨S1, hS1⟩ : ∃ S, strB (textT x) = S := ⟨_, rfl⟩
    obtain ⟨S2, hS2⟩ : ∃ S, strB (textT y) = S := ⟨_, rfl⟩
    simp only [hS1, hS2] at hcx hcy HE z1 z2
    obtain ⟨X1, hX1⟩ : ∃ X, strB [40] ++ S1 = X := ⟨_, rfl⟩
    have y1 : X1.size = 1 + S1.size := by rw [← hX1, ByteArray.size_append, strB_size]; rfl
    rw [hX1] at HE
    obtain ⟨X2, hX2⟩ : ∃ X, X1 ++ strB [44] = X := ⟨_, rfl⟩
    have y2 : X2.size = 2 + S1.size := by rw [← hX2, ByteArray.size_append, strB_size, y1]; simp; omega
    rw [hX2] at HE
    obtain ⟨X3, hX3⟩ : ∃ X, X2 ++ S2 = X := ⟨_, rfl⟩
    have y3 : X3.size = 2 + S1.size + S2.size := by rw [← hX3, ByteArray.size_append, y2]
    rw [hX3] at HE
    obtain ⟨X4, hX4⟩ : ∃ X, X3 ++ strB [41] = X := ⟨_, rfl⟩
    rw [hX4] at HE
    obtain ⟨q1, hq1⟩ : ∃ q, S1.size = q := ⟨_, rfl⟩
    obtain ⟨q2, hq2⟩ : ∃ q, S2.size = q := ⟨_, rfl⟩
    rw [hq1] at y1 y2 y3 z1
    rw [hq2] at y3 z2
    have b1 : ¬ 9223372036854775807 < 1 + q1 := by omega
    have b2 : ¬ 9223372036854775807 < 1 + q1 + 1 := by omega
    have b3 : ¬ 9223372036854775807 < 2 + q1 + q2 := by omega
    have b4 : ¬ 9223372036854775807 < 2 + q1 + q2 + 1 := by omega
    have hX1' : ({ data := #[40] } : ByteArray) ++ S1 = X1 := hX1
    have hX2' : X1 ++ ({ data := #[44] } : ByteArray) = X2 := hX2
    have hX4' : X3 ++ ({ data := #[41] } : ByteArray) = X4 := hX4
    have HW0 := Lib.hid hW0
    have HS0 := Lib.hid hs0
    have HB0 := Lib.hid hB0
    clear hW0 hs0 hB0 k1 e1 e2 e3 g1 g2 g3 hX1 hX2 hX4 hS1 hS2 ihx ihy lx ly z1 z2
    go_enter Try.func50, Try.ntmps50
    go_wp2
    rw [HW0.out]
    refine wp_region_held_drew (S := fun W => Below (w.heap.size + 1) W0 W) (by kernel_rfl) ((Below.refl _ _).drew) (fun hS => ?_)
    refine wpAnyH_take (i := 0) (v := ?_) rfl (by kernel_rfl) (by kernel_rfl) (by kernel_rfl) (fun _ _ _ h => h) (Yields.yieldsIf (Or.inl ⟨by kernel_rfl, ?_⟩)) hS ?_
    rotate_left
    · first | (intro w; go_simp; done) | (intro w; go_simp; with_reducible rfl)
    refine wpAnyH_take (i := 1) (v := ?_) rfl (by kernel_rfl) (by kernel_rfl) (by kernel_rfl) (fun _ _ _ h => h) (Or.inl ⟨by kernel_rfl, fun W hW => ?_⟩) hS ?_
    rotate_left
    · obtain ⟨f0, f1, f2, f3, f4⟩ := HF.out W hW
      first | (go_simp; done) | (go_simp; with_reducible rfl)
    refine wpAnyH_take (i := 2) (v := ?_) rfl (by kernel_rfl) (by kernel_rfl) (by kernel_rfl) (fun _ _ _ h => h) (Yields.yieldsIf (Or.inl ⟨by kernel_rfl, ?_⟩)) hS ?_
    rotate_left
    · first | (intro w; go_simp; done) | (intro w; go_simp; with_reducible rfl)
    refine wpAnyH_take (i := 3) (v := ?_) rfl (by kernel_rfl) (by kernel_rfl) (by kernel_rfl) (fun _ _ _ h => h) (Or.inl ⟨by kernel_rfl, fun W hW => ?_⟩) hS ?_
    rotate_left
    · obtain ⟨f0, f1, f2, f3, f4⟩ := HF.out W hW
      first | (go_simp; done) | (go_simp; with_reducible rfl)
    refine wpAnyH_take (i := 7) (v := ?_) rfl (by kernel_rfl) (by kernel_rfl) (by kernel_rfl) (fun _ _ _ h => h) (Yields.yieldsIf (Or.inl ⟨by kernel_rfl, ?_⟩)) hS ?_
    rotate_left
    · first | (intro w; go_simp; done) | (intro w; go_simp; with_reducible rfl)
    refine wpAnyH_take (i := 8) (v := ?_) rfl (by kernel_rfl) (by kernel_rfl) (by kernel_rfl) (fun _ _ _ h => h) (Or.inl ⟨by kernel_rfl, fun W hW => ?_⟩) hS ?_
    rotate_left
    · obtain ⟨f0, f1, f2, f3, f4⟩ := HF.out W hW
      first | (go_simp; done) | (go_simp; with_reducible rfl)
    refine wpAnyH_take (i := 9) (v := ?_) rfl (by kernel_rfl) (by kernel_rfl) (by kernel_rfl) (fun _ _ _ h => h) (Yields.yieldsIf (Or.inl ⟨by kernel_rfl, ?_⟩)) hS ?_
    rotate_left
    · first | (intro w; go_simp; done) | (intro w; go_simp; with_reducible rfl)
    refine wpAnyH_take (i := 10) (v := ?_) rfl (by kernel_rfl) (by kernel_rfl) (by kernel_rfl) (fun _ _ _ h => h) (Or.inl ⟨by kernel_rfl, fun W hW => ?_⟩) hS ?_
    rotate_left
    · obtain ⟨f0, f1, f2, f3, f4⟩ := HF.out W hW
      first | (go_simp; done) | (go_simp; with_reducible rfl)
    refine wpAnyH_ready (rs := [4]) (by kernel_rfl) (by simp) ?_
    refine AllReadyH.cons rfl (fun K hK => ?_) AllReadyH.nil
    go_simp
    go_wp2_with (go_at_call 50; refine (hcx _ hS).mono ?_; rintro e w3 ⟨rfl, hb3⟩)
    have hS3 : Below (w.heap.size + 1) W0 w3 := hS.trans (hb3.mono (by have := hS.size; have := HS0.out; omega))
    clear hb3
    refine hK.out _ _ hS3 (fun hS => ?_)
    clear hK K hS3
    refine wpAnyH_take (i := 5) (v := ?_) rfl (by kernel_rfl) (by kernel_rfl) (by kernel_rfl) (fun _ _ _ h => h) (Yields.yieldsIf (Or.inl ⟨by kernel_rfl, ?_⟩)) hS ?_
    rotate_left
    · first | (intro w; go_simp; done) | (intro w; go_simp; with_reducible rfl)
    refine wpAnyH_take (i := 6) (v := ?_) rfl (by kernel_rfl) (by kernel_rfl) (by kernel_rfl) (fun _ _ _ h => h) (Yields.yieldsIf (Or.inl ⟨by kernel_rfl, ?_⟩)) hS ?_
    rotate_left
    · first | (intro w; go_simp; done) | (intro w; go_simp; with_reducible rfl)
    refine wpAnyH_ready (rs := [11]) (by kernel_rfl) (by simp) ?_
    refine AllReadyH.cons rfl (fun K hK => ?_) AllReadyH.nil
    go_simp
    go_wp2_with (go_at_call 50; refine (hcy _ hS).mono ?_; rintro e w4 ⟨rfl, hb3⟩)
    have hS3 : Below (w.heap.size + 1) W0 w4 := hS.trans (hb3.mono (by have := hS.size; have := HS0.out; omega))
    clear hb3
    refine hK.out _ _ hS3 (fun hS => ?_)
    clear hK K hS3
    refine wpAnyH_take (i := 12) (v := ?_) rfl (by kernel_rfl) (by kernel_rfl) (by kernel_rfl) (fun _ _ _ h => h) (Yields.yieldsIf (Or.inl ⟨by kernel_rfl, ?_⟩)) hS ?_
    rotate_left
    · first | (intro w; go_simp; done) | (intro w; go_simp; with_reducible rfl)
    refine wpAnyH_take (i := 13) (v := ?_) rfl (by kernel_rfl) (by kernel_rfl) (by kernel_rfl) (fun _ _ _ h => h) (Yields.yieldsIf (Or.inl ⟨by kernel_rfl, ?_⟩)) hS ?_
    rotate_left
    · first | (intro w; go_simp; done) | (intro w; go_simp; with_reducible rfl)
    refine wpAnyH_take (i := 14) (v := ?_) rfl (by kernel_rfl) (by kernel_rfl) (by kernel_rfl) (fun _ _ _ h => h) (Yields.yieldsIf (Or.inl ⟨by kernel_rfl, ?_⟩)) hS ?_
    rotate_left
    · first | (intro w; go_simp; done) | (intro w; go_simp; with_reducible rfl)
    refine wpAnyH_done (by kernel_rfl) ?_ _
    have HB5 : Hid (Below w.heap.size w w4) := HB0.out.trans (hS.mono (by omega))
    clear hS
    go_wp2
    go_ret
    exact ⟨by rw [HE.out]; rfl, HB5.out⟩

theorem mk2_nodes (a b : Tr) : (a.mk2 b).nodes ≤ a.nodes + b.nodes + 1 := by
  cases a with
  | leaf x =>
    cases b with
    | leaf y => simp only [Tr.mk2]; split <;> simp [Tr.nodes]
    | node _ _ => simp [Tr.mk2, Tr.nodes]
  | node _ _ => cases b <;> simp [Tr.mk2, Tr.nodes]
theorem norm_nodes : ∀ t : Tr, t.norm.nodes ≤ t.nodes
  | .leaf _ => Nat.le_refl _
  | .node x y => by
    have := norm_nodes x
    have := norm_nodes y
    have := mk2_nodes x.norm y.norm
    simp only [Tr.norm, Tr.nodes]; omega
theorem mk2_depth (a b : Tr) : (a.mk2 b).depth ≤ max a.depth b.depth + 1 := by
  cases a with
  | leaf x =>
    cases b with
    | leaf y => simp only [Tr.mk2]; split <;> simp [Tr.depth]
    | node _ _ => simp [Tr.mk2, Tr.depth]
  | node _ _ => cases b <;> simp [Tr.mk2, Tr.depth]
theorem norm_depth : ∀ t : Tr, t.norm.depth ≤ t.depth
  | .leaf _ => Nat.le_refl _
  | .node x y => by
    have := norm_depth x
    have := norm_depth y
    have := mk2_depth x.norm y.norm
    simp only [Tr.norm, Tr.depth]; omega
/-- What Show answers. -/
def showR (t : Option Tr) : Value := match t with
  | some t => .tuple #[.string (strB (textT t.norm)), .int .i64 0]
  | none => .tuple #[.string ⟨#[]⟩, .int .i64 2]
theorem treeOf_small {o : Bool} {ks : Fo} {t : Tr} (h : treeOf o ks = some t) : t.depth ≤ 32 ∧ t.nodes ≤ 2047 := by
  unfold treeOf at h
  have := (Option.filter_eq_some_iff.1 h).2
  simpa only [Bool.and_eq_true, decide_eq_true_eq] using this
set_option maxRecDepth 100000 in
set_option maxHeartbeats 1600000 in
theorem rshow_any (o : Bool) (ks : Fo) (A : Option Addr) (c : Nat) (w : World) (hk : Kd w w.heap.size ks A) : Calls Try.prog 29 #[tv o A ks.len c] w fun e w' => e = .returned (showR (treeOf o ks)) ∧ Below w.heap.size w w' := by
  have hb0 : Below w.heap.size w (w.alloc (.cells #[.bool o, .slice A ks.len c] 24)) := (Below.refl _ w).alloc (Nat.le_refl _) _
  have hc1 := rnorm_any o ks A c _ (hk.up hb0)
  have HB0 := Lib.hid hb0
  unfold tv at hc1 ⊢
  obtain ⟨n1, hn1⟩ : ∃ n, ks.len = n := ⟨_, rfl⟩
  simp only [hn1] at hc1 HB0 ⊢
  clear hb0 hk hn1
  go_enter Try.func29, Try.ntmps29
  go_wp2_with fail
  refine hc1.mono ?_
  rintro e w1 h
  have hb1 := h.2
  obtain ⟨o5, A5, n5, c5, z, rfl, hz⟩ := h.form
  have hB1 : Below w.heap.size w w1 := HB0.out.trans (hb1.mono HB0.out.size)
  have HB1 : Hid (Below w.heap.size w (w1.alloc (.cells #[.bool o5, .slice A5 n5 c5] 24))) := hB1.alloc hB1.size _
  clear hb1 h hc1 hB1
  unfold tv
  rcases hz with ⟨rfl, t1, ht1, hi1⟩ | ⟨rfl, ht1⟩
  · have hsm := treeOf_small ht1
    have hc3 := text_any t1.norm _ (w1.alloc (.cells #[.bool o5, .slice A5 n5 c5] 24)) (Nat.le_trans (norm_nodes t1) (by omega)) (hi1.up ((Below.refl _ w1).alloc (Nat.le_refl _) _))
    unfold tv at hc3
    have HR : Hid (showR (treeOf o ks) = .tuple #[.string (strB (textT t1.norm)), .int .i64 0]) := by show _ = _; rw [ht1]; rfl
    obtain ⟨X, hX⟩ : ∃ X, strB (textT t1.norm) = X := ⟨_, rfl⟩
    rw [hX] at hc3 HR
    clear ht1 hi1 hsm hX
    go_wp2_with (go_at_call 50; refine hc3.mono ?_; rintro e w3 ⟨rfl, hb3⟩)
    go_ret2
    exact ⟨by rw [HR.out]; rfl, HB1.out.trans (hb3.mono HB1.out.size)⟩
  · have HR : Hid (showR (treeOf o ks) = .tuple #[.string ⟨#[]⟩, .int .i64 2]) := by show _ = _; rw [ht1]; rfl
    clear ht1
    go_wp2
    go_ret2
    exact ⟨by rw [HR.out]; rfl, HB1.out⟩
end Go.Proofs.Ytkpefelakhbkhaa.I
