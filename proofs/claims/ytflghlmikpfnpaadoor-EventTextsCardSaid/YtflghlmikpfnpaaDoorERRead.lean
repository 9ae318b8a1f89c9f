/-
  The reference's read.
-/
import Derived.Test.YtflghlmikpfnpaaDoorENumR
import Derived.Test.YtflghlmikpfnpaaDoorERow
namespace Go.Proofs.YtflghlmikpfnpaaDoor.E
open Go.RowKit

/-- What reading a tree answers. -/
def RdR (r : Option (Tr × Nat)) (w : World) (e : Ending) (w' : World) : Prop :=
  Below w.heap.size w w' ∧ ((∃ t q v, r = some (t, q) ∧ e = .returned (.tuple #[v, .int .i64 (q : Int)]) ∧ InP (New w w') w' t v) ∨ (r = none ∧ e = .returned (.tuple #[tv 0 none 0 0, .int .i64 (-1)])))
/-- A node that is made: the answer's variable, the node's own with the kids so far. -/
structure LS (w : World) (n : Int) (A : Option Addr) (c : Nat) (l : List El) (ks : List Tr) (W : World) : Prop where
  bel : Below w.heap.size w W
  res : Box2 W w.heap.size
  box : W.heap[w.heap.size + 1]? = some (.cells #[.int .i64 n, .slice A l.length c] 24 (0, 0))
  gr : GrE W (w.heap.size + 2) A c l
  kids : KidsIn (w.heap.size + 2) W A l ks
theorem LS.size {w W : World} {n : Int} {A : Option Addr} {c : Nat} {l : List El} {ks : List Tr} (h : LS w n A c l ks W) : w.heap.size + 2 ≤ W.heap.size := (Array.getElem?_eq_some_iff.1 h.box).1
theorem LS.next {w W W' : World} {n : Int} {A : Option Addr} {c : Nat} {l : List El} {ks : List Tr} (h : LS w n A c l ks W) (hb : Below W.heap.size W W') : LS w n A c l ks W' :=
  have hs := h.size
  ⟨h.bel.trans (hb.mono h.bel.size), h.res.below hb (by omega), (hb.block _ (by omega)).trans h.box, h.gr.below hb (Nat.le_refl _), h.kids.stay hb⟩
theorem LS.both {w W : World} {n : Int} {A : Option Addr} {c : Nat} {l : List El} {ks : List Tr} (h : LS w n A c l ks W) : Box2 W w.heap.size ∧ Below w.heap.size w W := ⟨h.res, h.bel⟩
theorem LS.box2 {w W : World} {n : Int} {A : Option Addr} {c : Nat} {l : List El} {ks : List Tr} (h : LS w n A c l ks W) : Box2 W (w.heap.size + 1) := ⟨_, _, h.box, rfl⟩
theorem LS.cells {w W : World} {n : Int} {A : Option Addr} {c : Nat} {l : List El} {ks : List Tr} (h : LS w n A c l ks W) : W.cell? ⟨w.heap.size + 1, 0, none⟩ = some (.int .i64 n) ∧ W.cell? ⟨w.heap.size + 1, 1, none⟩ = some (.slice A l.length c) :=
  ⟨by rw [cell_of_row W _ 0 _ 24 (0, 0) h.box]; rfl, by rw [cell_of_row W _ 1 _ 24 (0, 0) h.box]; rfl⟩
theorem LS.begin (w : World) (n : Int) (o : Obj) (ho : o = .cells #[.int .i64 0, .slice none 0 0] 24) : LS w n none 0 [] [] ((w.alloc o).alloc (.cells #[.int .i64 n, .slice none 0 0] 24)) := by
  subst ho
  refine ⟨((Below.refl _ w).alloc (Nat.le_refl _) _).alloc (by simp) _, (Box2.new w (.int .i64 0) (.slice none 0 0) 24).below ((Below.refl _ _).alloc (Nat.le_refl _) _) (by simp), ?_, GrE.nil _ _, KidsIn.nil _ _ _⟩
  have := heap_alloc_new (w.alloc (.cells #[.int .i64 0, .slice none 0 0] 24)) (.cells #[.int .i64 n, .slice none 0 0] 24)
  rw [World.size_alloc] at this
  exact this
theorem LS.push {w W w' : World} {n : Int} {A A' : Option Addr} {c c' : Nat} {l : List El} {ks : List Tr} (h : LS w n A c l ks W) {e : El} {t : Tr} (he : InP (fun b => w.heap.size + 2 ≤ b ∧ b < W.heap.size ∧ blk A ≠ some b) W t e.v)
    (hg : GrE w' (w.heap.size + 2) A' c' (l ++ [e])) (hB : Below (w.heap.size + 2) W w') (hs : ∀ k, k < W.heap.size → blk A ≠ some k → w'.heap[k]? = W.heap[k]?) (hz : W.heap.size ≤ w'.heap.size) (hA : blk A' = blk A ∨ ∃ k, blk A' = some k ∧ W.heap.size ≤ k) :
    LS w n A' c' (l ++ [e]) (ks ++ [t]) (w'.setCell ⟨w.heap.size + 1, 1, none⟩ (.slice A' (l.length + 1) c')) := by
  have hb2 : Box2 w' (w.heap.size + 1) := h.box2.below hB (by omega)
  have hbx := (hB.block (w.heap.size + 1) (by omega)).trans h.box
  refine ⟨((h.bel.trans (hB.mono (by omega)))).setCell (p := ⟨w.heap.size + 1, 1, none⟩) (by show _ ≤ _ + 1; omega) _, (h.res.below hB (by omega)).far (by omega) _, ?_, hg.set (p := ⟨w.heap.size + 1, 1, none⟩) (by show _ + 1 < _ + 2; omega) _, (h.kids.push he hs hz hA).set hb2⟩
  rw [List.length_append, List.length_singleton]
  simp [World.setCell, Array.getElem?_modify, hbx]
theorem lsc_le : ∀ (f : Nat) (r : List UInt8) (n k : Nat), (lsc f r n k).2 ≤ k + r.length
  | 0, r, n, k => by simp [lsc]
  | f + 1, [], n, k => by simp [lsc]
  | f + 1, b :: r, n, k => by
    rw [lsc]
    split
    · have := lsc_le f r (10 * n + dgv b) (k + 1); rw [List.length_cons]; omega
    · simp
theorem lnum_le (s : List UInt8) (p : Nat) (h : p ≤ s.length) : p + (lnum s p).2 ≤ s.length := by
  have := lsc_le 19 (s.drop p) 0 0
  rw [List.length_drop] at this
  unfold lnum
  omega
theorem lrd_le (s : List UInt8) (f p : Nat) (t : Tr) (q : Nat) (h : lrd s f p = some (t, q)) : q ≤ s.length := by
  cases f with
  | zero => simp [lrd] at h
  | succ f =>
    cases hb : s[p]? with
    | none => rw [lrd_none hb] at h; cases h
    | some b =>
      have hp := (List.getElem?_eq_some_iff.1 hb).1
      by_cases h40 : b = 40
      · subst h40
        rw [lrd_node hb, kont] at h
        split at h
        · obtain ⟨x, _, h⟩ := Option.bind_eq_some_iff.1 h
          split at h
          · obtain ⟨y, _, h⟩ := Option.bind_eq_some_iff.1 h
            split at h
            · rename_i hy
              have := (List.getElem?_eq_some_iff.1 hy).1
              simp at h
              omega
            · cases h
          · cases h
        · cases h
      · rw [lrd_leaf hb h40] at h
        split at h
        · cases h
        · have := lnum_le s p (by omega)
          simp at h
          omega

set_option maxRecDepth 100000 in
set_option maxHeartbeats 6400000 in
theorem rread_any (s : ByteArray) (hs : s.size ≤ 140737488355328) : ∀ (f p : Nat) (D : Int) (w : World), D = (f : Int) - 1 → f ≤ 33 → p ≤ s.size → Calls Tryd.prog 55 #[.string s, .int .i64 (p : Int), .int .i64 D] w (RdR (lrd (ul s) f p) w) := by
  intro f
  induction f with
  | zero =>
    intro p D w hD _ hp
    have hD' : D = -1 := by omega
    clear hD
    subst hD'
    have HN : Hid (lrd (ul s) 0 p = none) := rfl
    have HB : Hid (Below w.heap.size w (w.alloc (.cells #[.int .i64 0, .slice none 0 0] 24))) := (Below.refl _ w).alloc (Nat.le_refl _) _
    by_cases hps : p < s.size
    · go_enter Tryd.func55, Tryd.ntmps55
      go_wp2
      refine bodyPost_ret (v := .tuple #[tv 0 none 0 0, .int .i64 (-1)]) (by simp [results, Tryd.f55, go_sem, tv]) rfl ?_
      exact ⟨HB.out, .inr ⟨HN.out, rfl⟩⟩
    · go_enter Tryd.func55, Tryd.ntmps55
      go_wp2
      refine bodyPost_ret (v := .tuple #[tv 0 none 0 0, .int .i64 (-1)]) (by simp [results, Tryd.f55, go_sem, tv]) rfl ?_
      exact ⟨HB.out, .inr ⟨HN.out, rfl⟩⟩
  | succ f ih =>
    intro p D w hD hf hp
    have hD0 : 0 ≤ D := by omega
    have hD1 : D ≤ 32 := by omega
    have HB : Hid (Below w.heap.size w (w.alloc (.cells #[.int .i64 0, .slice none 0 0] 24))) := (Below.refl _ w).alloc (Nat.le_refl _) _
    by_cases hps : p < s.size
    · have hat := ul_at s p hps
      obtain ⟨X, hX⟩ : ∃ X : Int, ((s[p]'hps).toNat : Int) = X := ⟨_, rfl⟩
      by_cases h40 : X = 40
      · have hb40 : (s[p]'hps) = 40 := by apply UInt8.toNat_inj.1; rw [show (40 : UInt8).toNat = 40 from rfl]; omega
        rw [hb40] at hat
        have HE := Lib.hid (lrd_node (f := f) hat)
        have hle := lnum_le (ul s) (p + 1) (by rw [ul_length]; omega)
        rw [ul_length] at hle
        have hcn : Calls Tryd.prog 79 #[.string s, .int .i64 ((p : Int) + 1)] (w.alloc (.cells #[.int .i64 0, .slice none 0 0] 24)) fun e w' => e = .returned (numRV s (p + 1)) ∧ (w.alloc (.cells #[.int .i64 0, .slice none 0 0] 24)) = w' := rnumber_any s (p + 1) _ hs (by omega)
        unfold numRV at hcn
        obtain ⟨n, hn⟩ : ∃ n, cutN (lnum (ul s) (p + 1)).1 = n := ⟨_, rfl⟩
        obtain ⟨q0, hq0⟩ : ∃ q, p + 1 + (lnum (ul s) (p + 1)).2 = q := ⟨_, rfl⟩
        rw [hn, hq0] at hcn HE
        rw [hq0] at hle
        have HIH : Hid (∀ (p : Nat) (w : World), p ≤ s.size → Calls Tryd.prog 55 #[.string s, .int .i64 (p : Int), .int .i64 (D - 1)] w (RdR (lrd (ul s) f p) w)) := fun p w hp => ih p (D - 1) w (by omega) (by omega) hp
        subst h40
        clear hat hb40 hn hq0 ih hD
        go_enter Tryd.func55, Tryd.ntmps55
        go_wp2_with fail
        refine hcn.mono ?_
        rintro e w1 ⟨rfl, rfl⟩
        have HL0 := Lib.hid (LS.begin w n _ rfl)
        clear hcn
        go_wp2
        go_loopg [11, 13] 2 (fun m v i wr => ∃ (j q : Nat) (A : Option Addr) (c : Nat) (l : List El) (ks : List Tr), j ≤ 2 ∧ m = 2 - j ∧ v = .int .i64 (q : Int) ∧ i = .int .i64 (j : Int) ∧ q ≤ s.size ∧ Hid (ks.length = j) ∧ Hid (lrd (ul s) (f + 1) p = kont (ul s) f n ks q) ∧ Hid (LS w n A c l ks wr))
        case atStart => exact ⟨0, q0, none, 0, [], [], by omega, rfl, rfl, rfl, hle, rfl, HE.out, HL0.out⟩
        case round =>
          obtain ⟨j, q, A, c, l, ks, hj, hgk, rfl, rfl, hq, HKL, HK, HL⟩ := hrel
          have HGK := Lib.hid hgk; clear hgk
          by_cases hj2 : j < 2
          · have HST := Lib.hid (kont_step (ul s) f n ks q (by rw [HKL.out]; exact hj2))
            by_cases hqs : q < s.size
            · obtain ⟨Y, hY⟩ : ∃ Y : Int, ((s[q]'hqs).toNat : Int) = Y := ⟨_, rfl⟩
              have HAQ := Lib.hid (ul_at s q hqs)
              have hYb : 0 ≤ Y ∧ Y < 256 := by have := (s[q]'hqs).toNat_lt; omega
              by_cases h44 : Y = 44
              · have HK2 : Hid (lrd (ul s) (f + 1) p = (lrd (ul s) f (q + 1)).bind fun x => kont (ul s) f n (ks ++ [x.1]) x.2) := by
                  show _ = _
                  rw [HK.out, HST.out, if_pos]
                  rw [HAQ.out]
                  congr 1
                  apply UInt8.toNat_inj.1; rw [show (44 : UInt8).toNat = 44 from rfl]; omega
                have hcr := HIH.out (q + 1) wr (by omega)
                subst h44
                rw [show ((q + 1 : Nat) : Int) = (q : Int) + 1 by omega] at hcr
                clear HK HST HAQ hYb
                go_wp2_with fail
                refine hcr.mono ?_
                rintro e w2 ⟨hb2, hcase⟩
                have HL2 := Lib.hid (HL.out.next hb2)
                rcases hcase with ⟨x, q2, v, hr, rfl, hin⟩ | ⟨hr, rfl⟩
                · obtain ⟨A1, n1, c1, rfl⟩ := hin.form
                  have hq2 := lrd_le _ _ _ _ _ hr
                  rw [ul_length] at hq2
                  have HK3 : Hid (lrd (ul s) (f + 1) p = kont (ul s) f n (ks ++ [x]) q2) := by show _ = _; rw [HK2.out, hr]; rfl
                  have hb3 : Below w2.heap.size w2 (w2.alloc (.cells #[.int .i64 x.N, .slice A1 n1 c1] 24)) := (Below.refl _ w2).alloc (Nat.le_refl _) _
                  obtain ⟨W3, hW3⟩ : ∃ W3, w2.alloc (.cells #[.int .i64 x.N, .slice A1 n1 c1] 24) = W3 := ⟨_, rfl⟩
                  have z0 : W3.cell? ⟨w2.heap.size, 0, none⟩ = some (.int .i64 x.N) := by rw [← hW3]; simp [go_sem]
                  have z1 : W3.cell? ⟨w2.heap.size, 1, none⟩ = some (.slice A1 n1 c1) := by rw [← hW3]; simp [go_sem]
                  have hs3 : W3.heap.size = w2.heap.size + 1 := by rw [← hW3]; simp
                  rw [hW3] at hb3
                  have hL3 := HL2.out.next hb3
                  have hlt := HL.out.gr.lt
                  have hLs := HL.out.size
                  have hin3 : InP (fun b => w.heap.size + 2 ≤ b ∧ b < W3.heap.size ∧ blk A ≠ some b) W3 x (tv x.N A1 n1 c1) := (hin.stay hb3).more fun b hb => ⟨by have := hb.1; omega, by have := hb.2; omega, fun e => by have := hlt b e; have := hb.1; omega⟩
                  have hlen : l.length ≤ 2 := by have := HL.out.kids.1; have := HKL.out; omega
                  obtain ⟨A', c', w', hap, hg', hB', hsame, hsz, hA⟩ := hL3.gr.one ⟨x.N, A1, n1, c1⟩ 22 (by omega) hL3.size
                  have HL4 := Lib.hid (hL3.push (e := ⟨x.N, A1, n1, c1⟩) hin3 hg' hB' hsame hsz hA)
                  obtain ⟨z2, z3⟩ := hL3.cells
                  have hb2' : Box2 w' (w.heap.size + 1) := hL3.box2.below hB' (by omega)
                  obtain ⟨u0, u1, ⟨y0, y1⟩, y2, y3⟩ := hb2'.facts
                  have HAP := Lib.hid hap
                  have HW3 := Lib.hid hW3
                  simp only at HAP
                  clear hcr hb2 hb3 hr hin hin3 hL3 hlt hap hg' hB' hsame hsz hA HL HL2 HK2 hb2' hs3
                  generalize x.N = xn at *
                  unfold tv
                  go_wp2_with (at_builtin; refine wpList_append_run rfl _ _ _ _ rfl _ _ rfl rfl HAP.out ?_; clear HAP)
                  go_roundg (2 - (j + 1))
                  case measure => have := HGK.out; omega
                  case rel => exact ⟨j + 1, q2, A', c', _, _, by omega, rfl, rfl, by congr 1, hq2, by show _ = _; rw [List.length_append, List.length_singleton, HKL.out], HK3, HL4⟩
                · have hL3 := HL2.out.next ((Below.refl _ w2).alloc (Nat.le_refl _) (.cells #[.int .i64 0, .slice none 0 0] 24))
                  have HN : Hid (lrd (ul s) (f + 1) p = none) := by show _ = _; rw [HK2.out, hr]; rfl
                  obtain ⟨u0, u1, ⟨y0, y1⟩, y2, y3⟩ := (hL3.both).1.facts
                  have HFIN : Hid (∀ u1 u2, Below w.heap.size w (((w2.alloc (.cells #[.int .i64 0, .slice none 0 0] 24)).setCell ⟨w.heap.size, 0, none⟩ u1).setCell ⟨w.heap.size, 1, none⟩ u2)) := fun u1 u2 => ((hL3.both).2.setCell (p := ⟨w.heap.size, 0, none⟩) (Nat.le_refl _) _).setCell (p := ⟨w.heap.size, 1, none⟩) (Nat.le_refl _) _
                  clear hcr hb2 hr hL3 HL HL2 HK2
                  unfold tv
                  go_wp2
                  refine bodyPost_ret (v := .tuple #[tv 0 none 0 0, .int .i64 (-1)]) (by simp [results, Tryd.f55, go_sem, tv, y0, y1]) rfl ?_
                  exact ⟨HFIN.out _ _, .inr ⟨HN.out, rfl⟩⟩
              · have hne : (Y != 44) = true := by simp [h44]
                have HN : Hid (lrd (ul s) (f + 1) p = none) := by show _ = _; rw [HK.out, HST.out, if_neg]; rw [HAQ.out]; intro e; injection e with e; rw [e] at hY; exact h44 (by rw [← hY]; rfl)
                obtain ⟨u0, u1, ⟨y0, y1⟩, y2, y3⟩ := (HL.out.both).1.facts
                have HFIN : Hid (∀ u1 u2, Below w.heap.size w (((wr).setCell ⟨w.heap.size, 0, none⟩ u1).setCell ⟨w.heap.size, 1, none⟩ u2)) := fun u1 u2 => ((HL.out.both).2.setCell (p := ⟨w.heap.size, 0, none⟩) (Nat.le_refl _) _).setCell (p := ⟨w.heap.size, 1, none⟩) (Nat.le_refl _) _
                clear HK HST HAQ HL
                go_wp2
                refine bodyPost_ret (v := .tuple #[tv 0 none 0 0, .int .i64 (-1)]) (by simp [results, Tryd.f55, go_sem, tv, y0, y1]) rfl ?_
                exact ⟨HFIN.out _ _, .inr ⟨HN.out, rfl⟩⟩
            · have hqe : q = s.size := by omega
              have HN : Hid (lrd (ul s) (f + 1) p = none) := by show _ = _; rw [HK.out, HST.out, if_neg]; rw [List.getElem?_eq_none (by rw [ul_length]; omega)]; simp
              obtain ⟨u0, u1, ⟨y0, y1⟩, y2, y3⟩ := (HL.out.both).1.facts
              have HFIN : Hid (∀ u1 u2, Below w.heap.size w (((wr).setCell ⟨w.heap.size, 0, none⟩ u1).setCell ⟨w.heap.size, 1, none⟩ u2)) := fun u1 u2 => ((HL.out.both).2.setCell (p := ⟨w.heap.size, 0, none⟩) (Nat.le_refl _) _).setCell (p := ⟨w.heap.size, 1, none⟩) (Nat.le_refl _) _
              clear HK HST HL
              go_wp2
              refine bodyPost_ret (v := .tuple #[tv 0 none 0 0, .int .i64 (-1)]) (by simp [results, Tryd.f55, go_sem, tv, y0, y1]) rfl ?_
              exact ⟨HFIN.out _ _, .inr ⟨HN.out, rfl⟩⟩
          · obtain rfl : j = 2 := by omega
            obtain ⟨x, y, rfl⟩ : ∃ x y, ks = [x, y] := by
              match ks, HKL.out with
              | [x, y], _ => exact ⟨x, y, rfl⟩
            have HST : Hid (lrd (ul s) (f + 1) p = if (ul s)[q]? = some 41 then some (.node n x y, q + 1) else none) := HK.out
            clear HK
            by_cases hqs : q < s.size
            · obtain ⟨Y, hY⟩ : ∃ Y : Int, ((s[q]'hqs).toNat : Int) = Y := ⟨_, rfl⟩
              have HAQ := Lib.hid (ul_at s q hqs)
              have hYb : 0 ≤ Y ∧ Y < 256 := by have := (s[q]'hqs).toNat_lt; omega
              by_cases h41 : Y = 41
              · have HN : Hid (lrd (ul s) (f + 1) p = some (.node n x y, q + 1)) := by
                  show _ = _
                  rw [HST.out, if_pos]
                  rw [HAQ.out]
                  congr 1
                  apply UInt8.toNat_inj.1; rw [show (41 : UInt8).toNat = 41 from rfl]; omega
                have hnode := node_of (n := n) HL.out.gr HL.out.kids (Nat.le_refl _)
                obtain ⟨z2, z3⟩ := HL.out.cells
                obtain ⟨u0, u1, ⟨y0, y1⟩, y2, y3⟩ := HL.out.res.facts
                have HFIN : Hid (∀ u1 u2, Below w.heap.size w ((wr.setCell ⟨w.heap.size, 0, none⟩ u1).setCell ⟨w.heap.size, 1, none⟩ u2) ∧ InP (New w ((wr.setCell ⟨w.heap.size, 0, none⟩ u1).setCell ⟨w.heap.size, 1, none⟩ u2)) ((wr.setCell ⟨w.heap.size, 0, none⟩ u1).setCell ⟨w.heap.size, 1, none⟩ u2) (.node n x y) (tv n A l.length c)) := fun u1 u2 => ⟨(HL.out.bel.setCell (p := ⟨w.heap.size, 0, none⟩) (Nat.le_refl _) _).setCell (p := ⟨w.heap.size, 1, none⟩) (Nat.le_refl _) _, (InP.set2 (HL.out.res.set _) (InP.set2 HL.out.res hnode)).more fun b hb => ⟨by have := hb.1; omega, by rw [size_set, size_set]; exact hb.2⟩⟩
                subst h41
                clear HST HAQ HL hnode
                go_wp2
                refine bodyPost_ret (v := .tuple #[tv n A l.length c, .int .i64 ((q : Int) + 1)]) (by simp [results, Tryd.f55, go_sem, tv, y0, y1]) rfl ?_
                exact ⟨(HFIN.out _ _).1, .inl ⟨.node n x y, q + 1, _, HN.out, rfl, (HFIN.out _ _).2⟩⟩
              · have hne : (Y != 41) = true := by simp [h41]
                have HN : Hid (lrd (ul s) (f + 1) p = none) := by show _ = _; rw [HST.out, if_neg]; rw [HAQ.out]; intro e; injection e with e; rw [e] at hY; exact h41 (by rw [← hY]; rfl)
                obtain ⟨u0, u1, ⟨y0, y1⟩, y2, y3⟩ := (HL.out.both).1.facts
                have HFIN : Hid (∀ u1 u2, Below w.heap.size w (((wr).setCell ⟨w.heap.size, 0, none⟩ u1).setCell ⟨w.heap.size, 1, none⟩ u2)) := fun u1 u2 => ((HL.out.both).2.setCell (p := ⟨w.heap.size, 0, none⟩) (Nat.le_refl _) _).setCell (p := ⟨w.heap.size, 1, none⟩) (Nat.le_refl _) _
                clear HST HAQ HL
                go_wp2
                refine bodyPost_ret (v := .tuple #[tv 0 none 0 0, .int .i64 (-1)]) (by simp [results, Tryd.f55, go_sem, tv, y0, y1]) rfl ?_
                exact ⟨HFIN.out _ _, .inr ⟨HN.out, rfl⟩⟩
            · have hqe : q = s.size := by omega
              have HN : Hid (lrd (ul s) (f + 1) p = none) := by show _ = _; rw [HST.out, if_neg]; rw [List.getElem?_eq_none (by rw [ul_length]; omega)]; simp
              obtain ⟨u0, u1, ⟨y0, y1⟩, y2, y3⟩ := (HL.out.both).1.facts
              have HFIN : Hid (∀ u1 u2, Below w.heap.size w (((wr).setCell ⟨w.heap.size, 0, none⟩ u1).setCell ⟨w.heap.size, 1, none⟩ u2)) := fun u1 u2 => ((HL.out.both).2.setCell (p := ⟨w.heap.size, 0, none⟩) (Nat.le_refl _) _).setCell (p := ⟨w.heap.size, 1, none⟩) (Nat.le_refl _) _
              clear HST HL
              go_wp2
              refine bodyPost_ret (v := .tuple #[tv 0 none 0 0, .int .i64 (-1)]) (by simp [results, Tryd.f55, go_sem, tv, y0, y1]) rfl ?_
              exact ⟨HFIN.out _ _, .inr ⟨HN.out, rfl⟩⟩
      · have hb40 : (s[p]'hps) ≠ 40 := fun e => h40 (by rw [← hX, e]; rfl)
        have HE := Lib.hid (lrd_leaf (f := f) hat hb40)
        have hcn := rnumber_any s p (w.alloc (.cells #[.int .i64 0, .slice none 0 0] 24)) hs hp
        unfold numRV at hcn
        obtain ⟨⟨n, k⟩, hnk⟩ : ∃ x, lnum (ul s) p = x := ⟨_, rfl⟩
        have hkb := lnum_le (ul s) p (by rw [ul_length]; exact hp)
        rw [ul_length, hnk] at hkb
        rw [hnk] at hcn HE
        simp only at hcn HE hkb
        have hne : (X != 40) = true := by simp [h40]
        obtain ⟨V, hV⟩ : ∃ V, cutN n = V := ⟨_, rfl⟩
        rw [hV] at hcn HE
        have hXb : 0 ≤ X ∧ X < 256 := by have := (s[p]'hps).toNat_lt; omega
        clear hat hb40 hnk hV ih hD
        go_enter Tryd.func55, Tryd.ntmps55
        go_wp2_with fail
        refine hcn.mono ?_
        rintro e w1 ⟨rfl, rfl⟩
        clear hcn
        by_cases hk : k = 0
        · have HN : Hid (lrd (ul s) (f + 1) p = none) := by show _ = _; rw [HE.out, if_pos hk]
          subst hk
          clear HE
          go_wp2
          refine bodyPost_ret (v := .tuple #[tv 0 none 0 0, .int .i64 (-1)]) (by simp [results, Tryd.f55, go_sem, tv]) rfl ?_
          exact ⟨HB.out, .inr ⟨HN.out, rfl⟩⟩
        · have HN : Hid (lrd (ul s) (f + 1) p = some (.leaf V, p + k)) := by show _ = _; rw [HE.out, if_neg hk]
          have hpk : ¬ ((p + k : Nat) : Int) = (p : Int) := by omega
          clear HE
          go_wp2
          refine bodyPost_ret (v := .tuple #[tv V none 0 0, .int .i64 ((p : Int) + (k : Int))]) (by simp [results, Tryd.f55, go_sem, tv]) rfl ?_
          exact ⟨(Below.refl _ w).alloc (Nat.le_refl _) _, .inl ⟨.leaf V, p + k, _, HN.out, rfl, ⟨none, 0, rfl⟩⟩⟩
    · have HN : Hid (lrd (ul s) (f + 1) p = none) := lrd_none (List.getElem?_eq_none (by rw [ul_length]; omega))
      go_enter Tryd.func55, Tryd.ntmps55
      go_wp2
      refine bodyPost_ret (v := .tuple #[tv 0 none 0 0, .int .i64 (-1)]) (by simp [results, Tryd.f55, go_sem, tv]) rfl ?_
      exact ⟨HB.out, .inr ⟨HN.out, rfl⟩⟩
end Go.Proofs.YtflghlmikpfnpaaDoor.E
