/-
  The reference's Equal.
-/
import Derived.Test.YtflghlmikpfnpaaDoorESmall
namespace Go.Proofs.YtflghlmikpfnpaaDoor.E
open Go.RowKit

theorem eqT_refl (x : Tr) : eqT x x = true := (eqT_iff x x).2 rfl
set_option maxRecDepth 100000 in
set_option maxHeartbeats 1600000 in
/-- Trees whose first look tells them apart, or leaves. -/
theorem equal_no (o1 o2 : Int) (A1 A2 : Option Addr) (n1 n2 c1 c2 : Nat) (w : World) (h : o1 ≠ o2 ∨ n1 ≠ n2) : Calls Tryd.prog 18 #[tv o1 A1 n1 c1, tv o2 A2 n2 c2] w fun e w' => e = .returned (.bool false) ∧ Below w.heap.size w w' := by
  have HB : Hid (Below w.heap.size w ((w.alloc (.cells #[.int .i64 o1, .slice A1 n1 c1] 24)).alloc (.cells #[.int .i64 o2, .slice A2 n2 c2] 24))) := ((Below.refl _ w).alloc (Nat.le_refl _) _).alloc (by simp) _
  unfold tv
  by_cases ho : o1 = o2
  · have hn : ¬ n1 = n2 := by
      rcases h with h | h
      · exact absurd ho h
      · exact h
    subst ho
    clear h
    go_enter Tryd.func18, Tryd.ntmps18
    go_wp2
    go_ret
    exact ⟨rfl, HB.out⟩
  · have hob : (o1 == o2) = false := beq_eq_false_iff_ne.2 ho
    clear h
    go_enter Tryd.func18, Tryd.ntmps18
    go_wp2
    go_ret
    exact ⟨rfl, HB.out⟩
set_option maxRecDepth 100000 in
set_option maxHeartbeats 1600000 in
theorem equal_leaf (o : Int) (A1 A2 : Option Addr) (c1 c2 : Nat) (w : World) : Calls Tryd.prog 18 #[tv o A1 0 c1, tv o A2 0 c2] w fun e w' => e = .returned (.bool true) ∧ Below w.heap.size w w' := by
  have HB : Hid (Below w.heap.size w ((w.alloc (.cells #[.int .i64 o, .slice A1 0 c1] 24)).alloc (.cells #[.int .i64 o, .slice A2 0 c2] 24))) := ((Below.refl _ w).alloc (Nat.le_refl _) _).alloc (by simp) _
  unfold tv
  go_enter Tryd.func18, Tryd.ntmps18
  go_wp2
  go_loopg [5] 0 (fun k i wr => k = 0 ∧ i = .int .i64 0 ∧ wr = (w.alloc (.cells #[.int .i64 o, .slice A1 0 c1] 24)).alloc (.cells #[.int .i64 o, .slice A2 0 c2] 24))
  case atStart => exact ⟨rfl, rfl, rfl⟩
  case round =>
    obtain ⟨_, rfl, rfl⟩ := hrel
    go_wp2
    go_ret
    exact ⟨rfl, HB.out⟩

set_option maxRecDepth 100000 in
set_option maxHeartbeats 3200000 in
theorem equal_any : ∀ (x y : Tr) (P Q : Nat → Prop) (u v : Value) (w : World), InP P w x u → InP Q w y v → Calls Tryd.prog 18 #[u, v] w fun e w' => e = .returned (.bool (eqT x y)) ∧ Below w.heap.size w w' := by
  intro x
  induction x with
  | leaf o =>
    rintro y P Q u v w ⟨A1, c1, rfl⟩ hy
    cases y with
    | leaf p =>
      obtain ⟨A2, c2, rfl⟩ := hy
      by_cases h : o = p
      · subst h; rw [eqT_refl]; exact equal_leaf o A1 A2 c1 c2 w
      · rw [show eqT (.leaf o) (.leaf p) = false by simp [eqT, h]]; exact equal_no _ _ _ _ _ _ _ _ w (.inl h)
    | node m a b =>
      obtain ⟨b', off, c, rfl, _⟩ := hy
      exact equal_no _ _ _ _ _ _ _ _ w (.inr (by decide))
  | node n x1 x2 ih1 ih2 =>
    rintro y P Q u v w hx hy
    cases y with
    | leaf p =>
      obtain ⟨b', off, c, rfl, _⟩ := hx
      obtain ⟨A2, c2, rfl⟩ := hy
      exact equal_no _ _ _ _ _ _ _ _ w (.inr (by decide))
    | node m y1 y2 =>
      obtain ⟨b, off, c, rfl, hb, ⟨p1, A1, n1, c1, e1, e2, e3⟩, ⟨p2, A2, n2, c2, e4, e5, e6⟩⟩ := hx
      obtain ⟨b', off', c', rfl, hb', ⟨q1, B1, m1, d1, g1, g2, g3⟩, ⟨q2, B2, m2, d2, g4, g5, g6⟩⟩ := hy
      by_cases hnm : n = m
      · subst hnm
        have hbs : b < w.heap.size := World.block_lt_of_cell? w _ e1
        have hbs' : b' < w.heap.size := World.block_lt_of_cell? w _ g1
        unfold tv
        have HX := Lib.hid (((XS.begin w).boxed (.int .i64 n) (.slice (some ⟨b, off, none⟩) 2 c) 24).boxed (.int .i64 n) (.slice (some ⟨b', off', none⟩) 2 c') 24)
        simp only [List.nil_append, List.cons_append, World.size_alloc] at HX
        have FX : ∀ j, j < 2 → ∃ p A k d z q B l d' z', ((j = 0 ∧ z = x1 ∧ z' = y1) ∨ (j = 1 ∧ z = x2 ∧ z' = y2)) ∧ (∀ W, Below w.heap.size w W → Calls Tryd.prog 18 #[.agg #[.int .i64 p, .slice A k d], .agg #[.int .i64 q, .slice B l d']] W fun e w' => e = .returned (.bool (eqT z z')) ∧ Below W.heap.size W w') ∧
            Hid (∀ W, XS w [(w.heap.size, 0, .int .i64 n), (w.heap.size, 1, .slice (some ⟨b, off, none⟩) 2 c), (w.heap.size + 1, 0, .int .i64 n), (w.heap.size + 1, 1, .slice (some ⟨b', off', none⟩) 2 c')] [w.heap.size, w.heap.size + 1] W → W.cell? ⟨w.heap.size, 1, none⟩ = some (.slice (some ⟨b, off, none⟩) 2 c) ∧ W.cell? ⟨w.heap.size + 1, 1, none⟩ = some (.slice (some ⟨b', off', none⟩) 2 c') ∧ W.cell? ⟨b, off + j * 2, none⟩ = some (.int .i64 p) ∧ W.cell? ⟨b, off + j * 2 + 1, none⟩ = some (.slice A k d) ∧ W.cell? ⟨b', off' + j * 2, none⟩ = some (.int .i64 q) ∧ W.cell? ⟨b', off' + j * 2 + 1, none⟩ = some (.slice B l d')) := by
          intro j hj
          match j, hj with
          | 0, _ => exact ⟨p1, A1, n1, c1, x1, q1, B1, m1, d1, y1, .inl ⟨rfl, rfl, rfl⟩, fun W hW => ih1 y1 P Q _ _ W (e3.stay hW) (g3.stay hW), fun W hW => ⟨hW.get (by simp), hW.get (by simp), (hW.bel.cell hbs).trans (by simpa using e1), (hW.bel.cell hbs).trans (by simpa using e2), (hW.bel.cell hbs').trans (by simpa using g1), (hW.bel.cell hbs').trans (by simpa using g2)⟩⟩
          | 1, _ => exact ⟨p2, A2, n2, c2, x2, q2, B2, m2, d2, y2, .inr ⟨rfl, rfl, rfl⟩, fun W hW => ih2 y2 P Q _ _ W (e6.stay hW) (g6.stay hW), fun W hW => ⟨hW.get (by simp), hW.get (by simp), (hW.bel.cell hbs).trans (by simpa using e4), (hW.bel.cell hbs).trans (by simpa using e5), (hW.bel.cell hbs').trans (by simpa using g4), (hW.bel.cell hbs').trans (by simpa using g5)⟩⟩
        have HFX := Lib.hid FX
        have HQ : Hid (∀ W, XS w [(w.heap.size, 0, .int .i64 n), (w.heap.size, 1, .slice (some ⟨b, off, none⟩) 2 c), (w.heap.size + 1, 0, .int .i64 n), (w.heap.size + 1, 1, .slice (some ⟨b', off', none⟩) 2 c')] [w.heap.size, w.heap.size + 1] W → W.cell? ⟨w.heap.size, 1, none⟩ = some (.slice (some ⟨b, off, none⟩) 2 c)) := fun W hW => hW.get (by simp)
        clear FX e1 e2 e3 e4 e5 e6 g1 g2 g3 g4 g5 g6 ih1 ih2 hb hb' hbs hbs'
        go_enter Tryd.func18, Tryd.ntmps18
        go_wp2
        go_loopg [5] 2 (fun k i wr => ∃ (j : Nat), j ≤ 2 ∧ k = 2 - j ∧ i = .int .i64 j ∧ Hid ((0 < j → eqT x1 y1 = true) ∧ (1 < j → eqT x2 y2 = true)) ∧ Hid (XS w [(w.heap.size, 0, .int .i64 n), (w.heap.size, 1, .slice (some ⟨b, off, none⟩) 2 c), (w.heap.size + 1, 0, .int .i64 n), (w.heap.size + 1, 1, .slice (some ⟨b', off', none⟩) 2 c')] [w.heap.size, w.heap.size + 1] wr))
        case atStart => exact ⟨0, by omega, rfl, rfl, ⟨by omega, by omega⟩, HX.out⟩
        case round =>
          obtain ⟨j, hj, hgk, rfl, hinv, hB⟩ := hrel
          have HGK := Lib.hid hgk; clear hgk HX
          have f0' := HQ.out wr hB.out
          by_cases hlt : j < 2
          · obtain ⟨p, A, k, d, z, q, B, l, d', z', hz, hcall, HF⟩ := HFX.out j hlt
            have HE : ∀ r, eqT z z' = r → Hid ((r = true → (0 < j + 1 → eqT x1 y1 = true) ∧ (1 < j + 1 → eqT x2 y2 = true)) ∧ (r = false → eqT (.node n x1 x2) (.node n y1 y2) = false)) := by
              intro r hr
              rcases hz with ⟨h0, hz1, hz2⟩ | ⟨h0, hz1, hz2⟩
              · rw [hz1, hz2] at hr
                exact ⟨fun h => ⟨fun _ => hr.trans h, by omega⟩, fun h => by simp only [eqT]; rw [hr.trans h]; simp⟩
              · rw [hz1, hz2] at hr
                exact ⟨fun h => ⟨fun _ => hinv.out.1 (by omega), fun _ => hr.trans h⟩, fun h => by simp only [eqT]; rw [hr.trans h, Bool.and_false, Bool.and_false]⟩
            obtain ⟨r, hre⟩ : ∃ r, eqT z z' = r := ⟨_, rfl⟩
            rw [hre] at hcall
            have HC := Lib.hid hcall
            have HE2 := HE r hre
            have hXD := hB.out.drew
            clear hz hre HE hcall
            go_wp2
            refine wp_region_held_drew (S := fun W => XS w [(w.heap.size, 0, .int .i64 n), (w.heap.size, 1, .slice (some ⟨b, off, none⟩) 2 c), (w.heap.size + 1, 0, .int .i64 n), (w.heap.size + 1, 1, .slice (some ⟨b', off', none⟩) 2 c')] [w.heap.size, w.heap.size + 1] W) (by kernel_rfl) hXD (fun hS => ?_)
            clear hXD
            generalize wr.drew = wd at hS ⊢
            refine wpAnyH_take (i := 0) (v := ?_) rfl (by kernel_rfl) (by kernel_rfl) (by kernel_rfl) (fun _ _ _ h => h) (Yields.yieldsIf (Or.inl ⟨by kernel_rfl, ?_⟩)) hS ?_
            rotate_left
            · first | (intro w; go_simp; done) | (intro w; go_simp; with_reducible rfl)
            refine wpAnyH_take (i := 1) (v := ?_) rfl (by kernel_rfl) (by kernel_rfl) (by kernel_rfl) (fun _ _ _ h => h) (Or.inl ⟨by kernel_rfl, fun W hW => ?_⟩) hS ?_
            rotate_left
            · obtain ⟨f0, f1, f2, f3, f4, f5⟩ := HF.out W hW
              first | (go_simp; done) | (go_simp; with_reducible rfl)
            refine wpAnyH_take (i := 2) (v := ?_) rfl (by kernel_rfl) (by kernel_rfl) (by kernel_rfl) (fun _ _ _ h => h) (Yields.yieldsIf (Or.inl ⟨by kernel_rfl, ?_⟩)) hS ?_
            rotate_left
            · first | (intro w; go_simp; done) | (intro w; go_simp; with_reducible rfl)
            refine wpAnyH_take (i := 3) (v := ?_) rfl (by kernel_rfl) (by kernel_rfl) (by kernel_rfl) (fun _ _ _ h => h) (Yields.yieldsIf (Or.inl ⟨by kernel_rfl, ?_⟩)) hS ?_
            rotate_left
            · first | (intro w; go_simp; done) | (intro w; go_simp; with_reducible rfl)
            refine wpAnyH_take (i := 4) (v := ?_) rfl (by kernel_rfl) (by kernel_rfl) (by kernel_rfl) (fun _ _ _ h => h) (Or.inl ⟨by kernel_rfl, fun W hW => ?_⟩) hS ?_
            rotate_left
            · obtain ⟨f0, f1, f2, f3, f4, f5⟩ := HF.out W hW
              first | (go_simp; done) | (go_simp; with_reducible rfl)
            refine wpAnyH_take (i := 5) (v := ?_) rfl (by kernel_rfl) (by kernel_rfl) (by kernel_rfl) (fun _ _ _ h => h) (Yields.yieldsIf (Or.inl ⟨by kernel_rfl, ?_⟩)) hS ?_
            rotate_left
            · first | (intro w; go_simp; done) | (intro w; go_simp; with_reducible rfl)
            refine wpAnyH_take (i := 6) (v := ?_) rfl (by kernel_rfl) (by kernel_rfl) (by kernel_rfl) (fun _ _ _ h => h) (Or.inl ⟨by kernel_rfl, fun W hW => ?_⟩) hS ?_
            rotate_left
            · obtain ⟨f0, f1, f2, f3, f4, f5⟩ := HF.out W hW
              first | (go_simp; done) | (go_simp; with_reducible rfl)
            refine wpAnyH_take (i := 7) (v := ?_) rfl (by kernel_rfl) (by kernel_rfl) (by kernel_rfl) (fun _ _ _ h => h) (Yields.yieldsIf (Or.inl ⟨by kernel_rfl, ?_⟩)) hS ?_
            rotate_left
            · first | (intro w; go_simp; done) | (intro w; go_simp; with_reducible rfl)
            refine wpAnyH_take (i := 8) (v := ?_) rfl (by kernel_rfl) (by kernel_rfl) (by kernel_rfl) (fun _ _ _ h => h) (Yields.yieldsIf (Or.inl ⟨by kernel_rfl, ?_⟩)) hS ?_
            rotate_left
            · first | (intro w; go_simp; done) | (intro w; go_simp; with_reducible rfl)
            refine wpAnyH_take (i := 9) (v := ?_) rfl (by kernel_rfl) (by kernel_rfl) (by kernel_rfl) (fun _ _ _ h => h) (Or.inl ⟨by kernel_rfl, fun W hW => ?_⟩) hS ?_
            rotate_left
            · obtain ⟨f0, f1, f2, f3, f4, f5⟩ := HF.out W hW
              first | (go_simp; done) | (go_simp; with_reducible rfl)
            refine wpAnyH_ready (rs := [10]) (by kernel_rfl) (by simp) ?_
            refine AllReadyH.cons rfl (fun K hK => ?_) AllReadyH.nil
            go_simp
            go_wp2_with (go_at_call 18; refine (HC.out _ hS.bel).mono ?_; rintro e w2 ⟨rfl, hb2⟩)
            have hS3 := hS.next hb2
            clear hb2 hS HC
            refine hK.out _ _ hS3 (fun hS => ?_)
            clear hK K hS3
            refine wpAnyH_take (i := 11) (v := ?_) rfl (by kernel_rfl) (by kernel_rfl) (by kernel_rfl) (fun _ _ _ h => h) (Yields.yieldsIf (Or.inl ⟨by kernel_rfl, ?_⟩)) hS ?_
            rotate_left
            · first | (intro w; go_simp; done) | (intro w; go_simp; with_reducible rfl)
            refine wpAnyH_done (by kernel_rfl) ?_ _
            have HS := Lib.hid hS
            clear hS HF f0'
            cases r with
            | true =>
              go_wp2
              go_roundg (2 - (j + 1))
              case measure => have := HGK.out; omega
              case rel => exact ⟨j + 1, by omega, rfl, by go_num, HE2.out.1 (by first | rfl | trivial), HS⟩
            | false =>
              go_wp2
              go_ret
              exact ⟨ret_bool (HE2.out.2 (by first | rfl | trivial)).symm, HS.out.bel⟩
          · obtain rfl : j = 2 := by omega
            go_wp2
            go_ret
            refine ⟨ret_bool ?_, hB.out.bel⟩
            simp only [eqT]
            rw [hinv.out.1 (by omega), hinv.out.2 (by omega)]; simp
      · rw [show eqT (.node n x1 x2) (.node m y1 y2) = false by simp [eqT, hnm]]
        exact equal_no _ _ _ _ _ _ _ _ w (.inl hnm)
end Go.Proofs.YtflghlmikpfnpaaDoor.E
