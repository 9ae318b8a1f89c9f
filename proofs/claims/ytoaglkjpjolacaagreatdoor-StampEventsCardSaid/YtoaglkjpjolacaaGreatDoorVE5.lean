/-
  The reference's Equal.
-/
import Derived.Test.YtoaglkjpjolacaaGreatDoorVE2
import Derived.Test.YtoaglkjpjolacaaGreatDoorVE4
import Derived.Test.YtoaglkjpjolacaaGreatDoorVE3
namespace Go.Proofs.YtoaglkjpjolacaaGreatDoor.E
open Go.RowKit
theorem eqT_refl (x : Tr) : eqT x x = true := (eqT_iff x x).2 rfl
set_option maxRecDepth 100000 in
set_option maxHeartbeats 1600000 in
/-- Trees whose first look tells them apart, or leaves. -/
theorem equal_no (o1 o2 : Int) (A1 A2 : Option Addr) (n1 n2 c1 c2 : Nat) (w : World) (h : o1 ≠ o2 ∨ n1 ≠ n2) : Calls Tryz.prog 29 #[tv o1 A1 n1 c1, tv o2 A2 n2 c2] w fun e w' => e = .returned (.bool false) ∧ Below w.heap.size w w' := by
  have HB : Hid (Below w.heap.size w ((w.alloc (.cells #[.int .i64 o1, .slice A1 n1 c1] 27)).alloc (.cells #[.int .i64 o2, .slice A2 n2 c2] 27))) := ((Below.refl _ w).alloc (Nat.le_refl _) _).alloc (by simp) _
  unfold tv
  by_cases ho : o1 = o2
  · have hn : ¬ n1 = n2 := by
      rcases h with h | h
      · exact absurd ho h
      · exact h
    subst ho
    clear h
    go_enter Tryz.func29, Tryz.ntmps29
    go_wp2
    go_ret
    exact ⟨rfl, HB.out⟩
  · have hob : (o1 == o2) = false := beq_eq_false_iff_ne.2 ho
    clear h
    go_enter Tryz.func29, Tryz.ntmps29
    go_wp2
    go_ret
    exact ⟨rfl, HB.out⟩
set_option maxRecDepth 100000 in
set_option maxHeartbeats 1600000 in
theorem equal_leaf (o : Int) (A1 A2 : Option Addr) (c1 c2 : Nat) (w : World) : Calls Tryz.prog 29 #[tv o A1 0 c1, tv o A2 0 c2] w fun e w' => e = .returned (.bool true) ∧ Below w.heap.size w w' := by
  have HB : Hid (Below w.heap.size w ((w.alloc (.cells #[.int .i64 o, .slice A1 0 c1] 27)).alloc (.cells #[.int .i64 o, .slice A2 0 c2] 27))) := ((Below.refl _ w).alloc (Nat.le_refl _) _).alloc (by simp) _
  unfold tv
  go_enter Tryz.func29, Tryz.ntmps29
  go_wp2
  go_loopg [5] 0 (fun k i wr => k = 0 ∧ i = .int .i64 0 ∧ wr = (w.alloc (.cells #[.int .i64 o, .slice A1 0 c1] 27)).alloc (.cells #[.int .i64 o, .slice A2 0 c2] 27))
  case atStart => exact ⟨rfl, rfl, rfl⟩
  case round =>
    obtain ⟨_, rfl, rfl⟩ := hrel
    go_wp2
    go_ret
    exact ⟨rfl, HB.out⟩

set_option maxRecDepth 100000 in
set_option maxHeartbeats 3200000 in
theorem equal_any : ∀ (x y : Tr) (P Q : Nat → Prop) (u v : Value) (w : World), InP P w x u → InP Q w y v → Calls Tryz.prog 29 #[u, v] w fun e w' => e = .returned (.bool (eqT x y)) ∧ Below w.heap.size w w' := by
  intro x
  induction x with
  | leaf o =>
    rintro y P Q u v w ⟨A1, c1, rfl⟩ hy
    cases y with
    | leaf p =>
      obtain ⟨A2, c2, rfl⟩ := hy
      by_cases h : o = p
      · subst h; rw [eqT_refl]; exact equal_leaf o A1 A2 c1 c2 w
      · rw [show eqT (.leaf o) (.leaf p) = false by simp [eqT, h]]; exact equal_no _ _ _ _ _ _ _ _ w (.inl h)
    | node m a b =>
      obtain ⟨b', off, c, rfl, _⟩ := hy
      exact equal_no _ _ _ _ _ _ _ _ w (.inr (by decide))
  | node n x1 x2 ih1 ih2 =>
    rintro y P Q u v w hx hy
    cases y with
    | leaf p =>
      obtain ⟨b', off, c, rfl, _⟩ := hx
      obtain ⟨A2, c2, rfl⟩ := hy
      exact equal_no _ _ _ _ _ _ _ _ w (.inr (by decide))
    | node m y1 y2 =>
      obtain ⟨b, off, c, rfl, hb, ⟨p1, A1, n1, c1, e1, e2, e3⟩, ⟨p2, A2, n2, c2, e4, e5, e6⟩⟩ := hx
      obtain ⟨b', off', c', rfl, hb', ⟨q1, B1, m1, d1, g1, g2, g3⟩, ⟨q2, B2, m2, d2, g4, g5, g6⟩⟩ := hy
      by_cases hnm : n = m
      · subst hnm
        have hbs : b < w.heap.size := World.block_lt_of_cell? w _ e1
        have hbs' : b' < w.heap.size := World.block_lt_of_cell? w _ g1
        unfold tv
        have HX := Lib.hid (((XS.begin w).boxed (.int .i64 n) (.slice (some ⟨b, off, none⟩) 2 c) 27).boxed (.int .i64 n) (.slice (some ⟨b', off', none⟩) 2 c') 27)
        simp only [List.nil_append, List.cons_append, World.size_alloc] at HX
        have FX : ∀ j, j < 2 → ∃ p A k d z q B l d' z', ((j = 0 ∧ z = x1 ∧ z' = y1) ∨ (j = 1 ∧ z = x2 ∧ z' = y2)) ∧ (∀ W, Below w.heap.size w W → Calls Tryz.prog 29 #[.agg #[.int .i64 p, .slice A k d], .agg #[.int .i64 q, .slice B l d']] W fun e w' => e = .returned (.bool (eqT z z')) ∧ Below W.heap.size W w') ∧
            Hid (∀ W, XS w [(w.heap.size, 0, .int .i64 n), (w.heap.size, 1, .slice (some ⟨b, off, none⟩) 2 c), (w.heap.size + 1, 0, .int .i64 n), (w.heap.size + 1, 1, .slice (some ⟨b', off', none⟩) 2 c')] [w.heap.size, w.heap.size + 1] W → W.cell? ⟨w.heap.size, 1, none⟩ = some (.slice (some ⟨b, off, none⟩) 2 c) ∧ W.cell? ⟨w.heap.size + 1, 1, none⟩ = some (.slice (some ⟨b', off', none⟩) 2 c') ∧ W.cell? ⟨b, off + j * 2, none⟩ = some (.int .i64 p) ∧ W.cell? ⟨b, off + j * 2 + 1, none⟩ = some (.slice A k d) ∧ W.cell? ⟨b', off' + j * 2, none⟩ = some (.int .i64 q) ∧ W.cell? ⟨b', off' + j * 2 + 1, none⟩ = some (.slice B l d')) := by
          intro j hj
          match j, hj with
          | 0, _ => exact ⟨p1, A1, n1, c1, x1, q1, B1, m1, d1, y1, .inl ⟨rfl, rfl, rfl⟩, fun W hW => ih1 y1 P Q _ _ W (e3.stay hW) (g3.stay hW), fun W hW => ⟨hW.get (by simp), hW.get (by simp), (hW.bel.cell hbs).trans (by simpa using e1), (hW.bel.cell hbs).trans (by simpa using e2), (hW.bel.cell hbs').trans (by simpa using g1), (hW.bel.cell hbs').trans (by simpa using g2)⟩⟩
          | 1, _ => exact ⟨p2, A2, n2, c2, x2, q2, B2, m2, d2, y2, .inr ⟨rfl, rfl, rfl⟩, fun W hW => ih2 y2 P Q _ _ W (e6.stay hW) (g6.stay hW), fun W hW => ⟨hW.get (by simp), hW.get (by simp), (hW.bel.cell hbs).trans (by simpa using e4), (hW.bel.cell hbs).trans (by simpa using e5), (hW.bel.cell hbs').trans (by simpa using g4), (hW.bel.cell hbs').trans (by simpa using g5)⟩⟩
        have HFX := Lib.hid FX
        have HQ : Hid (∀ W, XS w [(w.heap.size, 0, .int .i64 n), (w.heap.size, 1, .slice (some ⟨b, off, none⟩) 2 c), (w.heap.size + 1, 0, .int .i64 n), (w.heap.size + 1, 1, .slice (some ⟨b', off', none⟩) 2 c')] [w.heap.size, w.heap.size + 1] W → W.cell? ⟨w.heap.size, 1, none⟩ = some (.slice (some ⟨b, off, none⟩) 2 c)) := fun W hW => hW.get (by simp)
        clear FX e1 e2 e3 e4 e5 e6 g1 g2 g3 g4 g5 g6 ih1 ih2 hb hb' hbs hbs'
        go_enter Tryz.func29, Tryz.ntmps29
        go_wp2
        go_loopg [5] 2 (fun k i wr => ∃ (j : Nat), j ≤ 2 ∧ k = 2 - j ∧ i = .int .i64 j ∧ Hid ((0 < j → eqT x1 y1 = true) ∧ (1 < j → eqT x2 y2 = true)) ∧ Hid (XS w [(w.heap.size, 0, .int .i64 n), (w.heap.size, 1, .slice (some ⟨b, off, none⟩) 2 c), (w.heap.size + 1, 0, .int .i64 n), (w.heap.size + 1, 1, .slice (some ⟨b', off', none⟩) 2 c')] [w.heap.size, w.heap.size + 1] wr))
        case atStart => exact ⟨0, by omega, rfl, rfl, ⟨by omega, by omega⟩, HX.out⟩
        case round =>
          obtain ⟨j, hj, hgk, rfl, hinv, hB⟩ := hrel
          have HGK := Lib.hid hgk; clear hgk HX
          have f0' := HQ.out wr hB.out
          by_cases hlt : j < 2
          · obtain ⟨p, A, k, d, z, q, B, l, d', z', hz, hcall, HF⟩ := HFX.out j hlt
            have HE : ∀ r, eqT z z' = r → Hid ((r = true → (0 < j + 1 → eqT x1 y1 = true) ∧ (1 < j + 1 → eqT x2 y2 = true)) ∧ (r = false → eqT (.node n x1 x2) (.node n y1 y2) = false)) := by
              intro r hr
              rcases hz with ⟨h0, hz1, hz2⟩ | ⟨h0, hz1, hz2⟩
              · rw [hz1, hz2] at hr
                exact ⟨fun h => ⟨fun _ => hr.trans h, by omega⟩, fun h => by simp only [eqT]; rw [hr.trans h]; simp⟩
              · rw [hz1, hz2] at hr
                exact ⟨fun h => ⟨fun _ => hinv.out.1 (by omega), fun _ => hr.trans h⟩, fun h => by simp only [eqT]; rw [hr.trans h, Bool.and_false, Bool.and_false]⟩
            obtain ⟨r, hre⟩ : ∃ r, eqT z z' = r := ⟨_, rfl⟩
            rw [hre] at hcall
            have HC := Lib.hid hcall
            have HE2 := HE r hre
            have hXD := hB.out.drew
            clear hz hre HE hcall
            go_wp2
            refine wp_region_held_drew (S := fun W => XS w [(w.heap.size, 0, .int .i64 n), (w.heap.size, 1, .slice (some ⟨b, off, none⟩) 2 c), (w.heap.size + 1, 0, .int .i64 n), (w.heap.size + 1, 1, .slice (some ⟨b', off', none⟩) 2 c')] [w.heap.size, w.heap.size + 1] W) (by kernel_rfl) hXD (fun hS => ?_)
            clear hXD
            generalize wr.drew = wd at hS ⊢
            refine wpAnyH_take (i := 0) (v := ?_) rfl (by kernel_rfl) (by kernel_rfl) (by kernel_rfl) (fun _ _ _ h => h) (Yields.yieldsIf (Or.inl ⟨by kernel_rfl, ?_⟩)) hS ?_
            rotate_left
            · first | (intro w; go_simp; done) | (intro w; go_simp; with_reducible rfl)
            refine wpAnyH_take (i := 1) (v := ?_) rfl (by kernel_rfl) (by kernel_rfl) (by kernel_rfl) (fun _ _ _ h => h) (Or.inl ⟨by kernel_rfl, fun W hW => ?_⟩) hS ?_
            rotate_left
            · obtain ⟨f0, f1, f2, f3, f4, f5⟩ := HF.out W hW
              first | (go_simp; done) | (go_simp; with_reducible rfl)
            refine wpAnyH_take (i := 2) (v := ?_) rfl (by kernel_rfl) (by kernel_rfl) (by kernel_rfl) (fun _ _ _ h => h) (Yields.yieldsIf (Or.inl ⟨by kernel_rfl, ?_⟩)) hS ?_
            rotate_left
            · first | (intro w; go_simp; done) | (intro w; go_simp; with_reducible rfl)
            refine wpAnyH_take (i := 3) (v := ?_) rfl (by kernel_rfl) (by kernel_rfl) (by kernel_rfl) (fun _ _ _ h => h) (Yields.yieldsIf (Or.inl ⟨by kernel_rfl, ?_⟩)) hS ?_
            rotate_left
            · first | (intro w; go_simp; done) | (intro w; go_simp; with_reducible rfl)
            refine wpAnyH_take (i := 4) (v := ?_) rfl (by kernel_rfl) (by kernel_rfl) (by kernel_rfl) (fun _ _ _ h => h) (Or.inl ⟨by kernel_rfl, fun W hW => ?_⟩) hS ?_
            rotate_left
            · obtain ⟨f0, f1, f2, f3, f4, f5⟩ := HF.out W hW
              first | (go_simp; done) | (go_simp; with_reducible rfl)
            refine wpAnyH_take (i := 5) (v := ?_) rfl (by kernel_rfl) (by kernel_rfl) (by kernel_rfl) (fun _ _ _ h => h) (Yields.yieldsIf (Or.inl ⟨by kernel_rfl, ?_⟩)) hS ?_
            rotate_left
            · first | (intro w; go_simp; done) | (intro w; go_simp; with_reducible rfl)
            refine wpAnyH_take (i := 6) (v := ?_) rfl (by kernel_rfl) (by kernel_rfl) (by kernel_rfl) (fun _ _ _ h => h) (Or.inl ⟨by kernel_rfl, fun W hW => ?_⟩) hS ?_
            rotate_left
            · obtain ⟨f0, f1, f2, f3, f4, f5⟩ := HF.out W hW
              first | (go_simp; done) | (go_simp; with_reducible rfl)
            refine wpAnyH_take (i := 7) (v := ?_) rfl (by kernel_rfl) (by kernel_rfl) (by kernel_rfl) (fun _ _ _ h => h) (Yields.yieldsIf (Or.inl ⟨by kernel_rfl, ?_⟩)) hS ?_
            rotate_left
            · first | (intro w; go_simp; done) | (intro w; go_simp; with_reducible rfl)
            refine wpAnyH_take (i := 8) (v := ?_) rfl (by kernel_rfl) (by kernel_rfl) (by kernel_rfl) (fun _ _ _ h => h) (Yields.yieldsIf (Or.inl ⟨by kernel_rfl, ?_⟩)) hS ?_
            rotate_left
            · first | (intro w; go_simp; done) | (intro w; go_simp; with_reducible rfl)
            refine wpAnyH_take (i := 9) (v := ?_) rfl (by kernel_rfl) (by kernel_rfl) (by kernel_rfl) (fun _ _ _ h => h) (Or.inl ⟨by kernel_rfl, fun W hW => ?_⟩) hS ?_
            rotate_left
            · obtain ⟨f0, f1, f2, f3, f4, f5⟩ := HF.out W hW
              first | (go_simp; done) | (go_simp; with_reducible rfl)
            refine wpAnyH_ready (rs := [10]) (by kernel_rfl) (by simp) ?_
            refine AllReadyH.cons rfl (fun K hK => ?_) AllReadyH.nil
            go_simp
            go_wp2_with (go_at_call 29; refine (HC.out _ hS.bel).mono ?_; rintro e w2 ⟨rfl, hb2⟩)
            have hS3 := hS.next hb2
            clear hb2 hS HC
            refine hK.out _ _ hS3 (fun hS => ?_)
            clear hK K hS3
            refine wpAnyH_take (i := 11) (v := ?_) rfl (by kernel_rfl) (by kernel_rfl) (by kernel_rfl) (fun _ _ _ h => h) (Yields.yieldsIf (Or.inl ⟨by kernel_rfl, ?_⟩)) hS ?_
            rotate_left
            · first | (intro w; go_simp; done) | (intro w; go_simp; with_reducible rfl)
            refine wpAnyH_done (by kernel_rfl) ?_ _
            have HS := Lib.hid hS
            clear hS HF f0'
            cases r with
            | true =>
              go_wp2
              go_roundg (2 - (j + 1))
              case measure => have := HGK.out; omega
              case rel => exact ⟨j + 1, by omega, rfl, by go_num, HE2.out.1 (by first | rfl | trivial), HS⟩
            | false =>
              go_wp2
              go_ret
              exact ⟨ret_bool (HE2.out.2 (by first | rfl | trivial)).symm, HS.out.bel⟩
          · obtain rfl : j = 2 := by omega
            go_wp2
            go_ret
            refine ⟨ret_bool ?_, hB.out.bel⟩
            simp only [eqT]
            rw [hinv.out.1 (by omega), hinv.out.2 (by omega)]; simp
      · rw [show eqT (.node n x1 x2) (.node m y1 y2) = false by simp [eqT, hnm]]
        exact equal_no _ _ _ _ _ _ _ _ w (.inl hnm)
end Go.Proofs.YtoaglkjpjolacaaGreatDoor.E
namespace Go.Proofs.YtoaglkjpjolacaaGreatDoor.E
open Go.RowKit
/-- What the document's tree is put together from. -/
structure Cut (l : List St) (k a : Nat) (own : List St) (c0 : St) : Prop where
  seg : Seg a own (a + 2 ^ k)
  cn : ∀ p, a ≤ p → p < a + 2 ^ k → cnt own p = cnt l p
  hd : own[0]? = some c0
  mn : minL own c0.2 = Tr.lo (cnt l) k a
  mx : maxL own c0.2 = Tr.hi (cnt l) k a
theorem cut_of {l : List St} {k a e : Nat} (h : Sea 0 l e) (he : a + 2 ^ k ≤ e) : ∃ c0, Cut l k a (withW 0 l a (2 ^ k)) c0 := by
  obtain ⟨h1, h2⟩ := withW_seg l 0 a (2 ^ k) e h he (Nat.zero_le _)
  rw [Nat.zero_max] at h1 h2
  have hp := Nat.two_pow_pos k
  cases hc : withW 0 l a (2 ^ k) with
  | nil => rw [hc] at h1; have : a = a + 2 ^ k := h1; omega
  | cons c0 r =>
    rw [hc] at h1 h2
    have h0 : (c0 :: r)[0]? = some c0 := rfl
    obtain ⟨e1, e2⟩ := seg_ends h1 h0
    obtain ⟨e3, e4⟩ := lo_congr k a h2
    exact ⟨c0, h1, h2, h0, by rw [e1, e3], by rw [e2, e4]⟩
theorem cnt_in {l : List St} {e p : Nat} (h : Sea 0 l e) (hi : InB l) (hp : p < e) : 0 ≤ cnt l p ∧ cnt l p ≤ 4611686018427387904 := by
  obtain ⟨x, hx, e⟩ := cnt_mem h hp (Nat.zero_le _)
  rw [e]; exact hi x hx
/-- What a call of tree asks. -/
structure TA (w : World) (k : Nat) (A : Option Addr) (l : List St) (a n e : Nat) : Prop where
  hn : n = 2 ^ k
  ha : a + n ≤ 1000000000000
  hr : RowR w w.heap.size A l
  hl : l.length + k ≤ 1000000
  hs : Sea 0 l e
  he : a + n ≤ e
  hv : ∀ r ∈ l, r.1 ≤ 1000000000000
  hi : InB l

set_option maxRecDepth 100000 in
set_option maxHeartbeats 3200000 in
theorem tree_any (k : Nat) : ∀ (A : Option Addr) (c : Nat) (l : List St) (a n e : Nat) (less : Int) (w : World), TA w k A l a n e → 0 ≤ less → less ≤ 4611686018427387904 →
    Calls Tryz.prog 73 #[.slice A l.length c, .int .u64 (a : Int), .int .u64 (n : Int), .int .i64 less] w (Trees ((Tr.bld (cnt l) k a).add (-less)) w) := by
  induction k using Nat.strongRecOn with
  | _ k ih =>
  intro A c l a n e less w hT hl0 hl1
  obtain ⟨c0, hcut⟩ := cut_of hT.hs (k := k) (a := a) (by have := hT.he; have := hT.hn; omega)
  rw [← hT.hn] at hcut
  have hlen := withW_len l 0 a n
  have hval : ∀ r ∈ withW 0 l a n, r.1 ≤ 1000000000000 := fun r hr => by have := (withW_mem l 0 a n r hr).1; have := hT.ha; omega
  have hinb := withW_in hT.hi 0 a n
  have hb0 : Below w.heap.size w (w.alloc (.cells #[.int .i64 0, .slice none 0 0] 27)) := (Below.refl _ w).alloc (Nat.le_refl _) _
  have hw := within_any A c l a n (w.alloc (.cells #[.int .i64 0, .slice none 0 0] 27)) (hT.hr.up hb0) (by have := hT.hl; omega) hT.hv hT.ha
  have hlo := lo_in (h := cnt l) k a (m := 0) (M := 4611686018427387904) fun p h1 h2 => cnt_in hT.hs hT.hi (by have := hT.he; have := hT.hn; omega)
  have hlh := Tr.lo_le_hi (cnt l) k a
  obtain ⟨own, hown⟩ : ∃ own, withW 0 l a n = own := ⟨_, rfl⟩
  rw [hown] at hcut hlen hval hinb hw
  have HBL := Lib.hid (Tr.bld_leaf (cnt l) k a)
  have HST : Hid (∀ j, k = j + 1 → Tr.bld (cnt l) k a = if Tr.hi (cnt l) k a = Tr.lo (cnt l) k a then .leaf (Tr.lo (cnt l) k a) else .node (Tr.lo (cnt l) k a) ((Tr.bld (cnt l) j a).add (-(Tr.lo (cnt l) k a))) ((Tr.bld (cnt l) j (a + 2 ^ j)).add (-(Tr.lo (cnt l) k a)))) := fun j hj => by subst hj; exact Tr.bld_step (cnt l) j a
  have HK0 : Hid (k = 0 → Tr.hi (cnt l) k a = Tr.lo (cnt l) k a) := fun h => by subst h; rfl
  have hmn := hcut.mn
  have hmx := hcut.mx
  obtain ⟨m, hm⟩ : ∃ m, Tr.lo (cnt l) k a = m := ⟨_, rfl⟩
  obtain ⟨M, hM⟩ : ∃ M, Tr.hi (cnt l) k a = M := ⟨_, rfl⟩
  rw [hm] at hmn hlo hlh HBL HST HK0
  rw [hM] at hmx hlo hlh HBL HST HK0
  have HLE : Hid (∀ W A3 c3, RowR W W.heap.size A3 own → Calls Tryz.prog 135 #[.slice A3 own.length c3] W fun e w' => e = .returned (.int .i64 m) ∧ W = w') := fun W A3 c3 hR => by rw [← hmn]; exact least_any A3 c3 own c0 W hR (by have := hT.hl; omega) hcut.hd
  have HGR : Hid (∀ W A3 c3, RowR W W.heap.size A3 own → Calls Tryz.prog 136 #[.slice A3 own.length c3] W fun e w' => e = .returned (.int .i64 M) ∧ W = w') := fun W A3 c3 hR => by rw [← hmx]; exact greatest_any A3 c3 own c0 W hR (by have := hT.hl; omega) hcut.hd
  have HAH : Hid (∀ W A3 c3, RowR W W.heap.size A3 own → Calls Tryz.prog 137 #[.slice A3 own.length c3, .int .u64 (a : Int)] W fun e w' => ∃ A' c', e = .returned (.slice A' (own.length + 1) c') ∧ GrR w' W.heap.size A' c' ((a, c0.2) :: own) ∧ Below W.heap.size W w') := fun W A3 c3 hR => ahead_any A3 c3 own c0 a W hR (by have := hT.hl; omega) hcut.hd
  have HIH : Hid (∀ j h, k = j + 1 → n = h * 2 → (∀ W A3 c3, RowR W W.heap.size A3 ((a, c0.2) :: own) → Calls Tryz.prog 73 #[.slice A3 (own.length + 1) c3, .int .u64 (a : Int), .int .u64 (h : Int), .int .i64 m] W (Trees ((Tr.bld (cnt l) j a).add (-m)) W)) ∧ (∀ W A3 c3, RowR W W.heap.size A3 ((a, c0.2) :: own) → Calls Tryz.prog 73 #[.slice A3 (own.length + 1) c3, .int .u64 ((a : Int) + (h : Int)), .int .u64 (h : Int), .int .i64 m] W (Trees ((Tr.bld (cnt l) j (a + 2 ^ j)).add (-m)) W))) := by
    intro j h hj hh
    have hp : h = 2 ^ j := by have := hT.hn; rw [hj, Nat.pow_succ] at this; omega
    have hSea : Sea 0 ((a, c0.2) :: own) (a + n) := ⟨Nat.zero_le _, by have := hcut.seg.sea; rwa [hT.hn]⟩
    have hcn : ∀ p, a ≤ p → p < a + n → cnt ((a, c0.2) :: own) p = cnt l p := fun p h1 h2 => by
      simp only [cnt]; rw [if_neg (by omega)]; exact hcut.cn p h1 (by rw [← hT.hn]; exact h2)
    have hv' : ∀ r ∈ (a, c0.2) :: own, r.1 ≤ 1000000000000 := fun r hr => by
      rcases List.mem_cons.1 hr with rfl | hr
      · have := hT.ha; simp only; omega
      · exact hval r hr
    have hi' : InB ((a, c0.2) :: own) := fun r hr => by
      rcases List.mem_cons.1 hr with rfl | hr
      · exact hinb c0 (List.mem_of_getElem? hcut.hd)
      · exact hinb r hr
    have e1 : Tr.bld (cnt ((a, c0.2) :: own)) j a = Tr.bld (cnt l) j a := Tr.bld_congr j a fun p h1 h2 => hcn p h1 (by omega)
    have e2 : Tr.bld (cnt ((a, c0.2) :: own)) j (a + 2 ^ j) = Tr.bld (cnt l) j (a + 2 ^ j) := Tr.bld_congr j (a + 2 ^ j) fun p h1 h2 => hcn p (by omega) (by omega)
    refine ⟨fun W A3 c3 hR => ?_, fun W A3 c3 hR => ?_⟩
    · rw [← e1]
      exact ih j (by omega) A3 c3 ((a, c0.2) :: own) a h (a + n) m W ⟨hp, by have := hT.ha; omega, hR, by have := hT.hl; simp only [List.length_cons]; omega, hSea, by omega, hv', hi'⟩ hlo.1 (by omega)
    · rw [← e2, show (a : Int) + (h : Int) = ((a + h : Nat) : Int) by omega, ← hp]
      exact ih j (by omega) A3 c3 ((a, c0.2) :: own) (a + h) h (a + n) m W ⟨hp, by have := hT.ha; omega, hR, by have := hT.hl; simp only [List.length_cons]; omega, hSea, by omega, hv', hi'⟩ hlo.1 (by omega)
  have HKN : Hid (∀ j, k = j + 1 → ∃ h, n = h * 2) := fun j hj => ⟨2 ^ j, by rw [hT.hn, hj, Nat.pow_succ]⟩
  have ha := hT.ha
  have HX := Lib.hid ((XS.begin w).fresh (.int .i64 0) (.slice none 0 0) 27)
  simp only [List.nil_append] at HX
  have hll : own.length ≤ 1000000 := by have := hT.hl; omega
  obtain ⟨B, hB⟩ : ∃ B, Tr.bld (cnt l) k a = B := ⟨_, rfl⟩
  rw [hB] at HBL HST ⊢
  clear hT ih hcut hinb hval hb0 hown hmn hmx hm hM hlen hB
  go_enter Tryz.func73, Tryz.ntmps73
  go_wp2_with fail
  refine hw.mono ?_
  rintro e w1 ⟨A1, c1, rfl, hg1, hb1⟩
  have HX1 := Lib.hid (HX.out.next hb1)
  have HR1 := Lib.hid hg1.row
  clear hw hb1 hg1 HX
  go_wp2_with fail
  refine (HLE.out w1 A1 c1 HR1.out).mono ?_
  rintro e w1' ⟨rfl, rfl⟩
  go_wp2_with fail
  refine (HGR.out w1 A1 c1 HR1.out).mono ?_
  rintro e w1' ⟨rfl, rfl⟩
  clear HLE HGR
  obtain ⟨u0, u1, ⟨d0, d1'⟩, f0, f1⟩ := HX1.out.facts w.heap.size (by simp)
  by_cases hMm : M = m
  · subst hMm
    have HBE : Hid (B = .leaf M) := HBL.out.1 rfl
    have HFIN : Hid (∀ u1 u2, InP (fun _ => False) ((w1.setCell ⟨w.heap.size, 0, none⟩ u1).setCell ⟨w.heap.size, 1, none⟩ u2) (.leaf (M - less)) (tv (M - less) none 0 0) ∧ Below w.heap.size w ((w1.setCell ⟨w.heap.size, 0, none⟩ u1).setCell ⟨w.heap.size, 1, none⟩ u2)) := fun u1 u2 => HX1.out.fin (P := fun _ => False) (t := .leaf (M - less)) (x := tv (M - less) none 0 0) _ (by simp) ⟨none, 0, rfl⟩ _ _
    clear HAH HIH HKN HX1 HBL HST HK0 HR1
    go_wp2
    refine bodyPost_ret (v := tv (M - less) none 0 0) (by simp [results, Tryz.f73, go_sem, tv, d0, d1']) rfl ?_
    refine ⟨_, rfl, ?_, (HFIN.out _ _).2⟩
    rw [HBE.out]
    exact (HFIN.out _ _).1.more fun _ h => h.elim
  · have hMb : (M == m) = false := beq_eq_false_iff_ne.2 hMm
    obtain ⟨j, hj⟩ : ∃ j, k = j + 1 := ⟨k - 1, by
      have : k ≠ 0 := fun h => hMm (HK0.out h)
      omega⟩
    obtain ⟨h, hh⟩ := HKN.out j hj
    have HBE : Hid (B = .node m ((Tr.bld (cnt l) j a).add (-m)) ((Tr.bld (cnt l) j (a + 2 ^ j)).add (-m))) := (HST.out j hj).trans (if_neg hMm)
    have HC1 := Lib.hid (HIH.out j h hj hh).1
    have HC2 := Lib.hid (HIH.out j h hj hh).2
    have hq : (n : Int).tdiv 2 = (h : Int) := by rw [Int.tdiv_eq_ediv_of_nonneg (by omega)]; omega
    obtain ⟨X, hX⟩ : ∃ X, (Tr.bld (cnt l) j a).add (-m) = X := ⟨_, rfl⟩
    obtain ⟨Y, hY⟩ : ∃ Y, (Tr.bld (cnt l) j (a + 2 ^ j)).add (-m) = Y := ⟨_, rfl⟩
    rw [hX, hY] at HBE
    rw [hX] at HC1
    rw [hY] at HC2
    have hah := HAH.out w1 A1 c1 HR1.out
    clear hj hX hY HIH HKN HBL HST HK0 HAH hMm d0 d1' f0 f1
    go_wp2_with fail
    refine hah.mono ?_
    rintro e w2 ⟨A2, c2, rfl, hg2, hb2⟩
    have HX2 := Lib.hid (HX1.out.next hb2)
    have HR2 := Lib.hid hg2.row
    clear hah hb2 hg2 HX1 HR1
    have hc1 := HC1.out w2 A2 c2 HR2.out
    go_wp2_with fail
    refine hc1.mono ?_
    rintro e w3 ⟨v3, rfl, ht3, hb3⟩
    obtain ⟨A3, n3, c3, rfl⟩ := ht3.form
    have HX3 := Lib.hid (HX2.out.next hb3)
    have HR3 := Lib.hid (HR2.out.up hb3)
    have HT3 : Hid (InP (New w w3) w3 X (tv X.N A3 n3 c3)) := ht3.more fun b hb => ⟨Nat.le_trans HX2.out.bel.size hb.1, hb.2⟩
    have hc2 := HC2.out w3 A2 c2 HR3.out
    clear hc1 hb3 ht3 HX2 HR2 HC1 HC2
    generalize X.N = o3 at *
    unfold tv
    go_wp2_with fail
    refine hc2.mono ?_
    rintro e w4 ⟨v4, rfl, ht4, hb4⟩
    obtain ⟨A4, n4, c4, rfl⟩ := ht4.form
    have HX4 := Lib.hid (HX3.out.next hb4)
    have HT3' : Hid (InP (New w w4) w4 X (tv o3 A3 n3 c3)) := (HT3.out.stay hb4).more fun b hb => ⟨hb.1, Nat.lt_of_lt_of_le hb.2 hb4.size⟩
    have HT4 : Hid (InP (New w w4) w4 Y (tv Y.N A4 n4 c4)) := ht4.more fun b hb => ⟨Nat.le_trans HX3.out.bel.size hb.1, hb.2⟩
    clear hc2 hb4 ht4 HX3 HR3 HT3
    generalize Y.N = o4 at *
    obtain ⟨u0, u1, ⟨d0, d1'⟩, f0, f1⟩ := HX4.out.facts w.heap.size (by simp)
    have hsz4 : w.heap.size < w4.heap.size := World.block_lt_of_cell? w4 _ d0
    obtain ⟨W5, hW5⟩ : ∃ W5, (w4.setCell ⟨w.heap.size, 0, none⟩ (.int .i64 (m - less))).setCell ⟨w.heap.size, 1, none⟩ (.slice (some ⟨w4.heap.size, 0, none⟩) 2 2) = W5 := ⟨_, rfl⟩
    have hX5 : XS w [] [w.heap.size] W5 := by rw [← hW5]; exact (HX4.out.store w.heap.size 0 _ (by simp) (by simp)).store w.heap.size 1 _ (by simp) (by simp)
    have hs5 : W5.heap.size = w4.heap.size := by rw [← hW5]; simp
    have r0 : W5.cell? ⟨w.heap.size, 0, none⟩ = some (.int .i64 (m - less)) := by
      rw [← hW5]
      refine (World.cell?_setCell_other _ _ _ _ (fun e => by injection e; omega)).trans ?_
      simp [go_sem, d0]
    have r1 : W5.cell? ⟨w.heap.size, 1, none⟩ = some (.slice (some ⟨w4.heap.size, 0, none⟩) 2 2) := by
      rw [← hW5]
      simp [go_sem, d1']
    obtain ⟨W6, hW6⟩ : ∃ W6, W5.alloc (.cells #[.int .i64 o3, .slice A3 n3 c3, .int .i64 o4, .slice A4 n4 c4] 27) = W6 := ⟨_, rfl⟩
    have hb56 : Below W5.heap.size W5 W6 := by rw [← hW6]; exact (Below.refl _ W5).alloc (Nat.le_refl _) _
    have HSS : Hid (W6.cell? ⟨w.heap.size, 0, none⟩ = some (.int .i64 (m - less)) ∧ W6.cell? ⟨w.heap.size, 1, none⟩ = some (.slice (some ⟨w4.heap.size, 0, none⟩) 2 2)) := ⟨(hb56.cell (World.block_lt_of_cell? W5 _ r0)).trans r0, (hb56.cell (World.block_lt_of_cell? W5 _ r1)).trans r1⟩
    have HFIN : Hid (InP (New w W6) W6 (.node (m - less) X Y) (tv (m - less) (some ⟨w4.heap.size, 0, none⟩) 2 2) ∧ Below w.heap.size w W6) := by
      have hbx := HX4.out.box w.heap.size (by simp)
      have hx5 : InP (New w w4) W5 X (tv o3 A3 n3 c3) := by rw [← hW5]; exact InP.set2 (hbx.1.set _) (InP.set2 hbx.1 HT3'.out)
      have hy5 : InP (New w w4) W5 Y (tv o4 A4 n4 c4) := by rw [← hW5]; exact InP.set2 (hbx.1.set _) (InP.set2 hbx.1 HT4.out)
      have hnew := heap_alloc_new W5 (.cells #[.int .i64 o3, .slice A3 n3 c3, .int .i64 o4, .slice A4 n4 c4] 27)
      rw [hW6, hs5] at hnew
      have hs6 : W6.heap.size = w4.heap.size + 1 := by rw [← hW6]; simp [hs5]
      exact ⟨two_in (P := New w w4) hnew (hx5.stay hb56) (hy5.stay hb56) (fun b hb => ⟨hb.1, by have := hb.2; omega⟩) ⟨by omega, by omega⟩, hX5.bel.trans (hb56.mono hX5.bel.size)⟩
    have HW6 := Lib.hid hW6
    have HW5 := Lib.hid hW5
    clear hX5 hs5 r0 r1 hb56 HX4 HT3' HT4 hW6 hW5
    unfold tv
    go_wp2
    rw [HW5.out, HW6.out]
    obtain ⟨s0, s1⟩ := HSS.out
    refine bodyPost_ret (v := tv (m - less) (some ⟨w4.heap.size, 0, none⟩) 2 2) (by simp [results, Tryz.f73, go_sem, tv, s0, s1]) rfl ?_
    refine ⟨_, rfl, ?_, HFIN.out.2⟩
    rw [HBE.out]
    exact HFIN.out.1
end Go.Proofs.YtoaglkjpjolacaaGreatDoor.E
namespace Go.Proofs.YtoaglkjpjolacaaGreatDoor.E
open Go.RowKit
/-- What a right tree's steps are. -/
structure Mean (t : Tr) (l : List St) : Prop where
  seg : Seg 0 l 4294967296
  cov : Tr.Cov (cnt l) t 32 0 0
  inb : InB l
  len : l.length ≤ 2047
theorem mean_of {t : Tr} (h : okT t = true) : Mean t (stepsT t 0 4294967296 0) := by
  obtain ⟨h1, h2, h3⟩ := (okT_iff t).1 h
  refine ⟨?_, ?_, ?_, Nat.le_trans (steps_len t 0 4294967296 0) h3⟩
  · have := steps_seg t 32 0 0 h1
    simpa using this
  · exact steps_cov t 32 0 0 h1
  · exact steps_in t 0 4294967296 0 (by omega) h2
theorem sea_val : ∀ {a e : Nat} {l : List St}, Sea a l e → ∀ r ∈ l, r.1 ≤ e
  | _, _, [], _, r, hr => by cases hr
  | a, e, (t, c) :: l, h, r, hr => by
    rcases List.mem_cons.1 hr with rfl | hr
    · exact h.2.le
    · exact sea_val h.2 r hr
theorem Mean.val {t : Tr} {l : List St} (h : Mean t l) : ∀ r ∈ l, r.1 ≤ 1000000000000 := fun r hr => by have := sea_val h.seg.sea r hr; omega
theorem Mean.hd {t : Tr} {l : List St} (h : Mean t l) : ∃ c0, l[0]? = some c0 := by
  cases l with
  | nil => have : (0 : Nat) = 4294967296 := h.seg; omega
  | cons c r => exact ⟨c, rfl⟩
theorem Mean.norm {t : Tr} {l : List St} (h : Mean t l) : Tr.bld (cnt l) 32 0 = t.norm := by
  rw [Tr.bld_norm t 32 0 0 h.cov, Tr.add_zero]
theorem cov_ends {f : Nat → Int} : ∀ (t : Tr) (k a : Nat) (s : Int), Tr.Cov f t k a s → Tr.lo f k a = s + low t ∧ Tr.hi f k a = s + high t
  | .leaf n, k, a, s, h => by
    obtain ⟨p, h1, h2, h3⟩ := Tr.lo_at f k a
    obtain ⟨q, g1, g2, g3⟩ := Tr.hi_at f k a
    rw [← h3, ← g3, h p h1 h2, h q g1 g2]; exact ⟨rfl, rfl⟩
  | .node _ _ _, 0, _, _, h => h.elim
  | .node n l r, k + 1, a, s, ⟨h1, h2⟩ => by
    have i1 := cov_ends l k a _ h1
    have i2 := cov_ends r k _ _ h2
    simp only [Tr.lo, Tr.hi, low, high]
    omega
theorem Mean.ends {t : Tr} {l : List St} (h : Mean t l) {c0 : St} (h0 : l[0]? = some c0) : minL l c0.2 = low t ∧ maxL l c0.2 = high t := by
  have hs : Seg 0 l (0 + 2 ^ 32) := by simpa using h.seg
  obtain ⟨e1, e2⟩ := seg_ends hs h0
  obtain ⟨e3, e4⟩ := cov_ends t 32 0 0 h.cov
  omega
theorem Mean.ta {t : Tr} {l : List St} (h : Mean t l) {w : World} {A : Option Addr} (hr : RowR w w.heap.size A l) : TA w 32 A l 0 4294967296 4294967296 :=
  ⟨rfl, by omega, hr, by have := h.len; omega, h.seg.sea, by omega, h.val, h.inb⟩
/-- Two trees' steps together. -/
structure Both (a b : Tr) (l m : List St) : Prop where
  seg : Seg 0 (bothS l m) 4294967296
  bld : Tr.bld (cnt (bothS l m)) 32 0 = Tr.join a b 0 0
  leq : bothL l m true = leqT a b 0 0
  inb : InB (bothS l m)
  len : (bothS l m).length ≤ 4094
theorem Both.ta {a b : Tr} {l m : List St} (h : Both a b l m) {w : World} {A : Option Addr} (hr : RowR w w.heap.size A (bothS l m)) : TA w 32 A (bothS l m) 0 4294967296 4294967296 :=
  ⟨rfl, by omega, hr, by have := h.len; omega, h.seg.sea, by omega, (fun r hr => by have := sea_val h.seg.sea r hr; omega), h.inb⟩

set_option maxRecDepth 100000 in
set_option maxHeartbeats 1600000 in
theorem rnorm_arg {w : World} {T : Option Tr} {v : Value} (h : Arg w T v) : Calls Tryz.prog 43 #[v] w (Ans (normR T) w) := by
  obtain ⟨o, A, n, c, rfl⟩ := h.form
  have HA := Lib.hid h
  have HX := Lib.hid (((XS.begin w).boxed (.int .i64 o) (.slice A n c) 27).fresh (.int .i64 0) (.slice none 0 0) 27)
  simp only [List.nil_append, List.cons_append, World.size_alloc] at HX
  have hc1 := rright_arg (h.up HX.out.bel)
  unfold tv at *
  clear h
  cases T with
  | none =>
    go_enter Tryz.func43, Tryz.ntmps43
    go_wp2_with fail
    refine hc1.mono ?_
    rintro e w1 ⟨rfl, hb1⟩
    have HX1 := Lib.hid (HX.out.next hb1)
    clear hb1 hc1 HX
    obtain ⟨u0, u1, ⟨c0, c1'⟩, f0, f1⟩ := HX1.out.facts (w.heap.size + 1) (by simp)
    have HFIN : Hid (∀ u1 u2, InP (fun _ => False) ((w1.setCell ⟨w.heap.size + 1, 0, none⟩ u1).setCell ⟨w.heap.size + 1, 1, none⟩ u2) (.leaf 0) (tv 0 none 0 0) ∧ Below w.heap.size w ((w1.setCell ⟨w.heap.size + 1, 0, none⟩ u1).setCell ⟨w.heap.size + 1, 1, none⟩ u2)) := fun u1 u2 => HX1.out.fin (P := fun _ => False) (t := .leaf 0) (x := tv 0 none 0 0) _ (by simp) ⟨none, 0, rfl⟩ _ _
    clear HX1
    go_wp2
    refine bodyPost_ret (v := .tuple #[tv 0 none 0 0, .int .i64 2]) (by simp [results, Tryz.f43, go_sem, tv, c0, c1']) rfl ?_
    exact ⟨_, rfl, (HFIN.out _ _).1.more fun _ h => h.elim, (HFIN.out _ _).2⟩
  | some t =>
    have hok := HA.out.inT.2
    have hme := mean_of hok
    go_enter Tryz.func43, Tryz.ntmps43
    go_wp2_with fail
    refine hc1.mono ?_
    rintro e w1 ⟨rfl, hb1⟩
    have HX1 := Lib.hid (HX.out.next hb1)
    clear hb1 hc1 HX
    have f := HX1.out.at0
    simp only [List.mem_cons, List.not_mem_nil, or_false, forall_eq_or_imp, forall_eq] at f
    obtain ⟨p0, p1⟩ := f
    have hc2 := means_any t _ w1 hok (HA.out.up HX1.out.bel).inT.1
    obtain ⟨l, hl⟩ : ∃ l, stepsT t 0 4294967296 0 = l := ⟨_, rfl⟩
    rw [hl] at hc2 hme
    have HM := Lib.hid hme
    clear hok hl hme
    go_wp2_with fail
    refine hc2.mono ?_
    rintro e w2 ⟨A2, c2, rfl, hg2, hb2, _⟩
    have HX2 := Lib.hid (HX1.out.next hb2)
    have hc3 := tree_any 32 A2 c2 l 0 4294967296 4294967296 0 w2 (HM.out.ta hg2.row) (by omega) (by omega)
    rw [HM.out.norm] at hc3
    simp only [Int.neg_zero, Tr.add_zero, Int.natCast_zero] at hc3
    clear hc2 hb2 hg2 HX1 p0 p1
    go_wp2_with fail
    refine hc3.mono ?_
    rintro e w3 ⟨v3, rfl, ht3, hb3⟩
    obtain ⟨A3, n3, c3, rfl⟩ := ht3.form
    have HX3 := Lib.hid (HX2.out.next hb3)
    have HT3 : Hid (InP (New w w3) w3 t.norm (tv t.norm.N A3 n3 c3)) := ht3.more fun b hb => ⟨Nat.le_trans HX2.out.bel.size hb.1, hb.2⟩
    have HNR : Hid (normR (some t) = (t.norm, 0)) := rfl
    obtain ⟨z, hz⟩ : ∃ z, t.norm.N = z := ⟨_, rfl⟩
    rw [hz] at HT3 ⊢
    clear hb3 ht3 hc3 HX2 hz
    obtain ⟨u0, u1, ⟨c0, c1'⟩, f0, f1⟩ := HX3.out.facts (w.heap.size + 1) (by simp)
    have HFIN : Hid (∀ u1 u2, InP (New w w3) ((w3.setCell ⟨w.heap.size + 1, 0, none⟩ u1).setCell ⟨w.heap.size + 1, 1, none⟩ u2) t.norm (tv z A3 n3 c3) ∧ Below w.heap.size w ((w3.setCell ⟨w.heap.size + 1, 0, none⟩ u1).setCell ⟨w.heap.size + 1, 1, none⟩ u2)) := fun u1 u2 => HX3.out.fin (w.heap.size + 1) (by simp) HT3.out _ _
    clear HX3 HT3
    unfold tv
    go_wp2
    refine bodyPost_ret (v := .tuple #[tv z A3 n3 c3, .int .i64 0]) (by simp [results, Tryz.f43, go_sem, tv, c0, c1']) rfl ?_
    rw [HNR.out]
    exact ⟨_, rfl, (HFIN.out _ _).1.more fun b hb => ⟨hb.1, by rw [size_set, size_set]; exact hb.2⟩, (HFIN.out _ _).2⟩

set_option maxRecDepth 100000 in
set_option maxHeartbeats 1600000 in
theorem rends_arg {w : World} {T : Option Tr} {v : Value} (h : Arg w T v) : Calls Tryz.prog 89 #[v] w fun e w' => e = .returned (endsR T) ∧ Below w.heap.size w w' := by
  obtain ⟨o, A, n, c, rfl⟩ := h.form
  have HA := Lib.hid h
  have HX := Lib.hid ((XS.begin w).boxed (.int .i64 o) (.slice A n c) 27)
  simp only [List.nil_append] at HX
  have hc1 := rright_arg (h.up HX.out.bel)
  unfold tv at *
  clear h
  cases T with
  | none =>
    go_enter Tryz.func89, Tryz.ntmps89
    go_wp2_with fail
    refine hc1.mono ?_
    rintro e w1 ⟨rfl, hb1⟩
    have HX1 := Lib.hid (HX.out.next hb1)
    clear hb1 hc1 HX
    go_wp2
    refine bodyPost_ret (results_tmp3 rfl _ _ _) rfl ?_
    exact ⟨rfl, HX1.out.bel⟩
  | some t =>
    have hok := HA.out.inT.2
    have hme := mean_of hok
    go_enter Tryz.func89, Tryz.ntmps89
    go_wp2_with fail
    refine hc1.mono ?_
    rintro e w1 ⟨rfl, hb1⟩
    have HX1 := Lib.hid (HX.out.next hb1)
    clear hb1 hc1 HX
    have f := HX1.out.at0
    simp only [List.mem_cons, List.not_mem_nil, or_false, forall_eq_or_imp, forall_eq] at f
    obtain ⟨p0, p1⟩ := f
    have hc2 := means_any t _ w1 hok (HA.out.up HX1.out.bel).inT.1
    obtain ⟨l, hl⟩ : ∃ l, stepsT t 0 4294967296 0 = l := ⟨_, rfl⟩
    rw [hl] at hc2 hme
    obtain ⟨c0, hc0⟩ := hme.hd
    have hen := hme.ends hc0
    have hll := hme.len
    have HE : Hid (endsR (some t) = .tuple #[.int .i64 (low t), .int .i64 (high t), .int .i64 0]) := rfl
    clear hok hl hme
    go_wp2_with fail
    refine hc2.mono ?_
    rintro e w2 ⟨A2, c2, rfl, hg2, hb2, _⟩
    have HX2 := Lib.hid (HX1.out.next hb2)
    have hc3 := least_any A2 c2 l c0 w2 hg2.row (by omega) hc0
    have hc4 := greatest_any A2 c2 l c0 w2 hg2.row (by omega) hc0
    rw [hen.1] at hc3
    rw [hen.2] at hc4
    generalize low t = L at *
    generalize high t = M at *
    clear hc2 hb2 hg2 HX1 p0 p1 hen hc0
    go_wp2_with fail
    refine hc3.mono ?_
    rintro e w3 ⟨rfl, rfl⟩
    go_wp2_with fail
    refine hc4.mono ?_
    rintro e w3 ⟨rfl, rfl⟩
    clear hc3 hc4
    go_wp2
    refine bodyPost_ret (results_tmp3 rfl _ _ _) rfl ?_
    exact ⟨by rw [HE.out]; rfl, HX2.out.bel⟩

end Go.Proofs.YtoaglkjpjolacaaGreatDoor.E
