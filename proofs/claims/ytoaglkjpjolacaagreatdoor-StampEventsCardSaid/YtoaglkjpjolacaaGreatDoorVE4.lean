/-
  The reference's right and Right.
-/
import Derived.Test.YtoaglkjpjolacaaGreatDoorVE2
import Derived.Test.YtoaglkjpjolacaaGreatDoorVE1
namespace Go.Proofs.YtoaglkjpjolacaaGreatDoor.E
open Go.RowKit
set_option maxRecDepth 100000 in
set_option maxHeartbeats 3200000 in
theorem rright_any (d : Nat) : ∀ (n : Int) (ks : Fo) (A : Option Addr) (c : Nat) (l m : Int) (w : World), d ≤ 1000 → 0 ≤ l → l ≤ 1000000 → m ≤ 4611686018427387904 → Kd (Lt w.heap.size) w ks A →
    Calls Tryz.prog 132 #[tv n A ks.len c, .int .i64 d, .int .i64 l, .int .i64 m] w fun e w' => e = .returned (.int .i64 (rightT n ks d l m)) ∧ Below w.heap.size w w' := by
  induction d using Nat.strongRecOn with
  | _ d ih =>
  intro n ks A c l m w hd hl hl2 hm hk
  unfold tv
  have HB0 : Hid (Below w.heap.size w (w.alloc (.cells #[.int .i64 n, .slice A ks.len c] 27))) := (Below.refl _ w).alloc (Nat.le_refl _) _
  have HK := Lib.hid hk
  clear hk
  by_cases h0 : l - 1 < 0
  · have HR : Hid (rightT n ks d l m = -1) := if_pos (.inl h0)
    clear ih
    go_enter Tryz.func132, Tryz.ntmps132
    go_wp2
    go_ret
    exact ⟨ret_int HR.out.symm, HB0.out⟩
  by_cases hn1 : n < 0
  · have HR : Hid (rightT n ks d l m = -1) := if_pos (.inr (.inl hn1))
    clear ih
    go_enter Tryz.func132, Tryz.ntmps132
    go_wp2
    go_ret
    exact ⟨ret_int HR.out.symm, HB0.out⟩
  by_cases hn2 : m < n
  · have HR : Hid (rightT n ks d l m = -1) := if_pos (.inr (.inr (.inl hn2)))
    clear ih
    go_enter Tryz.func132, Tryz.ntmps132
    go_wp2
    go_ret
    exact ⟨ret_int HR.out.symm, HB0.out⟩
  by_cases hz : ks.len = 0
  · have HR : Hid (rightT n ks d l m = l - 1) := by
      show _ = _
      unfold rightT
      rw [if_neg (by unfold badN; omega)]
      cases ks with
      | nil => rfl
      | cons _ _ _ => simp [Fo.len] at hz
    obtain ⟨z, hze⟩ : ∃ z, ks.len = z := ⟨_, rfl⟩
    rw [hze] at hz HB0 ⊢
    subst hz
    clear ih hze
    go_enter Tryz.func132, Tryz.ntmps132
    go_wp2
    go_loopg [2, 9] 0 (fun k x i wr => k = 0 ∧ x = .int .i64 (l - 1) ∧ i = .int .i64 0 ∧ wr = w.alloc (.cells #[.int .i64 n, .slice A 0 c] 27))
    case atStart => exact ⟨rfl, rfl, rfl, rfl⟩
    case round =>
      obtain ⟨_, rfl, rfl, rfl⟩ := hrel
      go_wp2
      go_ret
      exact ⟨ret_int HR.out.symm, HB0.out⟩
  have hn0 : ((ks.len : Int) == 0) = false := beq_eq_false_iff_ne.2 (by omega)
  by_cases h2 : ks.len = 2
  · have h2b : ((ks.len : Int) == 2) = true := by rw [h2]; rfl
    by_cases hd0 : d = 0
    · have HR : Hid (rightT n ks d l m = -1) := if_pos (.inr (.inr (.inr ⟨hz, .inr hd0⟩)))
      subst hd0
      obtain ⟨z, hze⟩ : ∃ z, ks.len = z := ⟨_, rfl⟩
      rw [hze] at h2 h2b hn0 HB0 hz ⊢
      subst h2
      clear hze hn0 h2b ih
      go_enter Tryz.func132, Tryz.ntmps132
      go_wp2
      go_ret
      exact ⟨ret_int HR.out.symm, HB0.out⟩
    · have HR : Hid (rightT n ks d l m = rightK ks (d - 1) (l - 1) (m - n)) := if_neg (by unfold badN; omega)
      obtain ⟨b, off, rfl, hb, hf⟩ : ∃ b off, A = some ⟨b, off, none⟩ ∧ b < w.heap.size ∧ InF (Lt w.heap.size) w ks b off := by
        rcases HK.out with h | h
        · omega
        · exact h
      have hd0b : ((d : Int) == 0) = false := beq_eq_false_iff_ne.2 (by omega)
      have HF := Lib.hid hf
      rw [h2] at HB0 ⊢
      have HB := Lib.hid hb
      have hIH := Lib.hid fun o ks A c l w => ih (d - 1) (by omega) o ks A c l (m - n) w (by omega)
      simp only [show ((d - 1 : Nat) : Int) = (d : Int) - 1 by omega] at hIH
      have H2 := Lib.hid h2
      have HX := Lib.hid ((XS.begin w).boxed (.int .i64 n) (.slice (some ⟨b, off, none⟩) 2 c) 27)
      simp only [List.nil_append] at HX
      clear ih hz hf hb h2 hn0 h2b HB0
      go_enter Tryz.func132, Tryz.ntmps132
      go_wp2
      go_loopg [2, 9] 2 (fun k x i wr => ∃ (j : Nat) (fo : Fo) (z : Int), j ≤ 2 ∧ k = 2 - j ∧ x = .int .i64 z ∧ i = .int .i64 j ∧ Hid (fo.len + j = 2) ∧ Hid (InF (Lt w.heap.size) w fo b (off + j * 2)) ∧ Hid ((if z < 0 then z else rightK fo (d - 1) z (m - n)) = rightK ks (d - 1) (l - 1) (m - n)) ∧ z ≤ l - 1 ∧ -1 ≤ z ∧ Hid (XS w [(w.heap.size, 0, .int .i64 n), (w.heap.size, 1, .slice (some ⟨b, off, none⟩) 2 c)] [w.heap.size] wr))
      case atStart => exact ⟨0, ks, l - 1, by omega, rfl, rfl, rfl, H2.out, HF.out, by show _ = _; rw [if_neg (by omega)], by omega, by omega, HX.out⟩
      case round =>
        obtain ⟨j, fo, z, hj, hgk, rfl, rfl, hlen, hfo, hinv, hz1, hz2, hX⟩ := hrel
        have HGK := Lib.hid hgk; clear hgk HX
        have f := hX.out.at0
        simp only [List.mem_cons, List.not_mem_nil, or_false, forall_eq_or_imp, forall_eq] at f
        obtain ⟨p0, p1⟩ := f
        by_cases hlt : j < 2
        · by_cases hzn : z < 0
          · have hinv2 := hinv.out
            rw [if_pos hzn] at hinv2
            have HI := Lib.hid hinv2
            clear hinv2
            go_wp2
            go_ret
            exact ⟨ret_int (by rw [HR.out]; exact HI.out), hX.out.bel⟩
          · cases fo with
            | nil => have := hlen.out; simp [Fo.len] at this; omega
            | cons o2 k2 rest =>
              obtain ⟨⟨A2, c2, e1, e2, e3⟩, e4⟩ := hfo.out
              have hk2 : Kd (Lt w.heap.size) w k2 A2 := e3
              have HCALL : Hid (∀ W, Below w.heap.size w W → Calls Tryz.prog 132 #[.agg #[.int .i64 o2, .slice A2 k2.len c2], .int .i64 ((d : Int) - 1), .int .i64 z, .int .i64 (m - n)] W fun e w' => e = .returned (.int .i64 (rightT o2 k2 (d - 1) z (m - n))) ∧ Below W.heap.size W w') := fun W hW => hIH.out o2 k2 A2 c2 z W (by omega) (by omega) (by omega) (hk2.up hW)
              have HLE := Lib.hid (rightT_le o2 k2 (d - 1) z (m - n) (by omega))
              have HI : Hid ((if rightT o2 k2 (d - 1) z (m - n) < 0 then rightT o2 k2 (d - 1) z (m - n) else rightK rest (d - 1) (rightT o2 k2 (d - 1) z (m - n)) (m - n)) = rightK ks (d - 1) (l - 1) (m - n)) := by
                show _ = _
                rw [← rightK_cons, ← hinv.out, if_neg hzn]
              have HL2 : Hid (rest.len + (j + 1) = 2) := by show _ = _; have := hlen.out; simp [Fo.len] at this; omega
              have HF2 : Hid (InF (Lt w.heap.size) w rest b (off + (j + 1) * 2)) := by
                show InF _ _ _ _ _
                rw [show off + (j + 1) * 2 = off + j * 2 + 2 by omega]; exact e4
              obtain ⟨z2, hz2e⟩ : ∃ z2, rightT o2 k2 (d - 1) z (m - n) = z2 := ⟨_, rfl⟩
              rw [hz2e] at HCALL HLE HI
              have HFC : Hid (∀ W, XS w [(w.heap.size, 0, .int .i64 n), (w.heap.size, 1, .slice (some ⟨b, off, none⟩) 2 c)] [w.heap.size] W → W.cell? ⟨w.heap.size, 0, none⟩ = some (.int .i64 n) ∧ W.cell? ⟨w.heap.size, 1, none⟩ = some (.slice (some ⟨b, off, none⟩) 2 c) ∧ W.cell? ⟨b, off + j * 2, none⟩ = some (.int .i64 o2) ∧ W.cell? ⟨b, off + j * 2 + 1, none⟩ = some (.slice A2 k2.len c2)) := fun W hW =>
                ⟨hW.get (by simp), hW.get (by simp), (hW.bel.cell (p := ⟨b, off + j * 2, none⟩) HB.out).trans e1, (hW.bel.cell (p := ⟨b, off + j * 2 + 1, none⟩) HB.out).trans e2⟩
              have hXD := hX.out.drew
              have hw1 : IntKind.i64.wrap ((d : Int) - 1) = (d : Int) - 1 := wrap_id (by omega) (by omega)
              have hw2 : IntKind.i64.wrap (m - n) = m - n := wrap_id (by omega) (by omega)
              clear e1 e2 e3 e4 hk2 hz2e hIH
              go_wp2
              refine wp_region_held_drew (S := fun W => XS w [(w.heap.size, 0, .int .i64 n), (w.heap.size, 1, .slice (some ⟨b, off, none⟩) 2 c)] [w.heap.size] W) (by kernel_rfl) hXD (fun hS => ?_)
              clear hXD
              generalize wr.drew = wd at hS ⊢
              refine wpAnyH_take (i := 0) (v := ?_) rfl (by kernel_rfl) (by kernel_rfl) (by kernel_rfl) (fun _ _ _ h => h) (Yields.yieldsIf (Or.inl ⟨by kernel_rfl, ?_⟩)) hS ?_
              rotate_left
              · first | (intro w; go_simp; done) | (intro w; go_simp; with_reducible rfl)
              refine wpAnyH_take (i := 1) (v := ?_) rfl (by kernel_rfl) (by kernel_rfl) (by kernel_rfl) (fun _ _ _ h => h) (Or.inl ⟨by kernel_rfl, fun W hW => ?_⟩) hS ?_
              rotate_left
              · obtain ⟨f0, f1, f2, f3⟩ := HFC.out W hW
                first | (go_simp; done) | (go_simp; with_reducible rfl)
              refine wpAnyH_take (i := 2) (v := ?_) rfl (by kernel_rfl) (by kernel_rfl) (by kernel_rfl) (fun _ _ _ h => h) (Yields.yieldsIf (Or.inl ⟨by kernel_rfl, ?_⟩)) hS ?_
              rotate_left
              · first | (intro w; go_simp; done) | (intro w; go_simp; with_reducible rfl)
              refine wpAnyH_take (i := 3) (v := ?_) rfl (by kernel_rfl) (by kernel_rfl) (by kernel_rfl) (fun _ _ _ h => h) (Yields.yieldsIf (Or.inl ⟨by kernel_rfl, ?_⟩)) hS ?_
              rotate_left
              · first | (intro w; go_simp; done) | (intro w; go_simp; with_reducible rfl)
              refine wpAnyH_take (i := 4) (v := ?_) rfl (by kernel_rfl) (by kernel_rfl) (by kernel_rfl) (fun _ _ _ h => h) (Or.inl ⟨by kernel_rfl, fun W hW => ?_⟩) hS ?_
              rotate_left
              · obtain ⟨f0, f1, f2, f3⟩ := HFC.out W hW
                first | (go_simp; done) | (go_simp; with_reducible rfl)
              refine wpAnyH_take (i := 5) (v := ?_) rfl (by kernel_rfl) (by kernel_rfl) (by kernel_rfl) (fun _ _ _ h => h) (Yields.yieldsIf (Or.inl ⟨by kernel_rfl, ?_⟩)) hS ?_
              rotate_left
              · first | (intro w; go_simp; done) | (intro w; go_simp; with_reducible rfl)
              refine wpAnyH_take (i := 6) (v := ?_) rfl (by kernel_rfl) (by kernel_rfl) (by kernel_rfl) (fun _ _ _ h => h) (Yields.yieldsIf (Or.inl ⟨by kernel_rfl, ?_⟩)) hS ?_
              rotate_left
              · first | (intro w; go_simp; done) | (intro w; go_simp; with_reducible rfl)
              refine wpAnyH_take (i := 7) (v := ?_) rfl (by kernel_rfl) (by kernel_rfl) (by kernel_rfl) (fun _ _ _ h => h) (Yields.yieldsIf (Or.inl ⟨by kernel_rfl, ?_⟩)) hS ?_
              rotate_left
              · first | (intro w; go_simp; done) | (intro w; go_simp; with_reducible rfl)
              refine wpAnyH_take (i := 8) (v := ?_) rfl (by kernel_rfl) (by kernel_rfl) (by kernel_rfl) (fun _ _ _ h => h) (Yields.yieldsIf (Or.inl ⟨by kernel_rfl, ?_⟩)) hS ?_
              rotate_left
              · first | (intro w; go_simp; done) | (intro w; go_simp; with_reducible rfl)
              refine wpAnyH_take (i := 9) (v := ?_) rfl (by kernel_rfl) (by kernel_rfl) (by kernel_rfl) (fun _ _ _ h => h) (Yields.yieldsIf (Or.inl ⟨by kernel_rfl, ?_⟩)) hS ?_
              rotate_left
              · first | (intro w; go_simp; done) | (intro w; go_simp; with_reducible rfl)
              refine wpAnyH_take (i := 10) (v := ?_) rfl (by kernel_rfl) (by kernel_rfl) (by kernel_rfl) (fun _ _ _ h => h) (Or.inl ⟨by kernel_rfl, fun W hW => ?_⟩) hS ?_
              rotate_left
              · obtain ⟨f0, f1, f2, f3⟩ := HFC.out W hW
                first | (go_simp; done) | (go_simp; with_reducible rfl)
              refine wpAnyH_take (i := 11) (v := ?_) rfl (by kernel_rfl) (by kernel_rfl) (by kernel_rfl) (fun _ _ _ h => h) (Yields.yieldsIf (Or.inl ⟨by kernel_rfl, ?_⟩)) hS ?_
              rotate_left
              · first | (intro w; go_simp; done) | (intro w; go_simp; with_reducible rfl)
              refine wpAnyH_ready (rs := [12]) (by kernel_rfl) (by simp) ?_
              refine AllReadyH.cons rfl (fun K hK => ?_) AllReadyH.nil
              go_simp
              go_wp2_with (go_at_call 132; refine (HCALL.out _ hS.bel).mono ?_; rintro e w2 ⟨rfl, hb2⟩)
              have hS3 := hS.next hb2
              clear hb2 hS
              refine hK.out _ _ hS3 (fun hS => ?_)
              clear hK K hS3
              refine wpAnyH_take (i := 13) (v := ?_) rfl (by kernel_rfl) (by kernel_rfl) (by kernel_rfl) (fun _ _ _ h => h) (Yields.yieldsIf (Or.inl ⟨by kernel_rfl, ?_⟩)) hS ?_
              rotate_left
              · first | (intro w; go_simp; done) | (intro w; go_simp; with_reducible rfl)
              refine wpAnyH_done (by kernel_rfl) ?_ _
              have HX3 := Lib.hid hS
              have hz3 := HLE.out
              clear hS HCALL HFC
              go_wp2
              go_roundg (2 - (j + 1))
              case measure => have := HGK.out; omega
              case rel => exact ⟨j + 1, rest, z2, by omega, rfl, rfl, by go_num, HL2, HF2, HI, by omega, by omega, HX3⟩
        · obtain rfl : j = 2 := by omega
          have HI : Hid (z = rightK ks (d - 1) (l - 1) (m - n)) := by
            show _ = _
            have := hlen.out
            cases fo with
            | nil =>
              have h := hinv.out
              by_cases hz : z < 0
              · rwa [if_pos hz] at h
              · rw [if_neg hz] at h; exact h
            | cons _ _ _ => simp [Fo.len] at this
          clear hIH
          go_wp2
          go_ret
          exact ⟨ret_int (by rw [HR.out]; exact HI.out), hX.out.bel⟩
  · have HR : Hid (rightT n ks d l m = -1) := if_pos (.inr (.inr (.inr ⟨hz, .inl h2⟩)))
    have h2b : ((ks.len : Int) == 2) = false := beq_eq_false_iff_ne.2 (by omega)
    obtain ⟨z, hze⟩ : ∃ z, ks.len = z := ⟨_, rfl⟩
    rw [hze] at h2 h2b hn0 HB0 hz ⊢
    clear hze ih
    go_enter Tryz.func132, Tryz.ntmps132
    go_wp2
    go_ret
    exact ⟨ret_int HR.out.symm, HB0.out⟩

set_option maxRecDepth 100000 in
set_option maxHeartbeats 800000 in
theorem rRight_any (o : Int) (ks : Fo) (A : Option Addr) (c : Nat) (w : World) (hk : Kd (Lt w.heap.size) w ks A) :
    Calls Tryz.prog 70 #[tv o A ks.len c] w fun e w' => e = .returned (.bool (treeOf o ks).isSome) ∧ Below w.heap.size w w' := by
  have hb0 : Below w.heap.size w (w.alloc (.cells #[.int .i64 o, .slice A ks.len c] 27)) := (Below.refl _ w).alloc (Nat.le_refl _) _
  have hcall := rright_any 32 o ks A c 2047 4611686018427387904 (w.alloc (.cells #[.int .i64 o, .slice A ks.len c] 27)) (by omega) (by omega) (by omega) (by omega) (hk.up hb0)
  have HR := Lib.hid (rightT_full o ks)
  obtain ⟨z, hz⟩ : ∃ z, rightT o ks 32 2047 4611686018427387904 = z := ⟨_, rfl⟩
  rw [hz] at hcall
  rw [show mc = 4611686018427387904 from rfl, hz] at HR
  unfold tv at hcall ⊢
  have HB0 := Lib.hid hb0
  clear hb0 hz hk
  go_enter Tryz.func70, Tryz.ntmps70
  go_wp2_with fail
  refine hcall.mono ?_
  rintro e w1 ⟨rfl, hb1⟩
  go_wp2
  go_ret
  refine ⟨ret_bool ?_, HB0.out.trans (hb1.mono HB0.out.size)⟩
  have := HR.out
  rw [Bool.eq_iff_iff, decide_eq_true_iff, this]
theorem rright_arg {w : World} {T : Option Tr} {v : Value} (h : Arg w T v) : Calls Tryz.prog 70 #[v] w fun e w' => e = .returned (.bool T.isSome) ∧ Below w.heap.size w w' := by
  obtain ⟨o, ks, A, c, rfl, hk, rfl⟩ := h
  exact rRight_any o ks A c w hk
end Go.Proofs.YtoaglkjpjolacaaGreatDoor.E
namespace Go.Proofs.YtoaglkjpjolacaaGreatDoor.E
/-- A count, up to a piece. -/
abbrev St := Nat × Int
def stepsT : Tr → Nat → Nat → Int → List St
  | .leaf n, a, z, s => [(a + z, s + n)]
  | .node n l r, a, z, s => stepsT l a (z / 2) (s + n) ++ stepsT r (a + z / 2) (z / 2) (s + n)
theorem steps_len : ∀ (t : Tr) (a z : Nat) (s : Int), (stepsT t a z s).length ≤ t.nodes
  | .leaf n, a, z, s => by simp [stepsT, Tr.nodes]
  | .node n l r, a, z, s => by
    have := steps_len l a (z / 2) (s + n)
    have := steps_len r (a + z / 2) (z / 2) (s + n)
    simp only [stepsT, List.length_append, Tr.nodes]; omega
/-- Steps that go on from a piece to a piece, each of some width. -/
def Seg : Nat → List St → Nat → Prop
  | a, [], e => a = e
  | a, (t, _) :: r, e => a < t ∧ Seg t r e
theorem Seg.le : ∀ {a e : Nat} {l : List St}, Seg a l e → a ≤ e
  | _, _, [], h => Nat.le_of_eq h
  | _, _, _ :: _, h => Nat.le_trans (Nat.le_of_lt h.1) h.2.le
theorem Seg.append : ∀ {a b c : Nat} {l m : List St}, Seg a l b → Seg b m c → Seg a (l ++ m) c
  | _, _, _, [], _, h, g => by cases h; exact g
  | _, _, _, _ :: _, _, h, g => ⟨h.1, h.2.append g⟩
theorem steps_seg : ∀ (t : Tr) (k a : Nat) (s : Int), t.depth ≤ k → Seg a (stepsT t a (2 ^ k) s) (a + 2 ^ k)
  | .leaf n, k, a, s, _ => ⟨by have := Nat.two_pow_pos k; omega, rfl⟩
  | .node n l r, 0, a, s, h => by simp [Tr.depth] at h
  | .node n l r, k + 1, a, s, h => by
    simp only [Tr.depth] at h
    have e2 : 2 ^ (k + 1) / 2 = 2 ^ k := by rw [Nat.pow_succ]; omega
    have := steps_seg l k a (s + n) (by omega)
    have h2 := steps_seg r k (a + 2 ^ k) (s + n) (by omega)
    rw [show a + 2 ^ k + 2 ^ k = a + 2 ^ (k + 1) by rw [Nat.pow_succ]; omega] at h2
    simp only [stepsT, e2]
    exact this.append h2
/-- The count at a piece. -/
def cnt : List St → Nat → Int
  | [], _ => 0
  | (t, c) :: r, p => if p < t then c else cnt r p
theorem cnt_left : ∀ {a b : Nat} {l : List St} (m : List St) {p : Nat}, Seg a l b → p < b → a ≤ p → cnt (l ++ m) p = cnt l p
  | _, _, [], _, _, h, h1, h2 => by cases h; omega
  | _, _, (t, c) :: r, m, p, h, h1, h2 => by
    simp only [List.cons_append, cnt]
    split
    · rfl
    · exact cnt_left m h.2 h1 (by omega)
theorem cnt_right : ∀ {a b : Nat} {l : List St} (m : List St) {p : Nat}, Seg a l b → b ≤ p → cnt (l ++ m) p = cnt m p
  | _, _, [], _, _, _, _ => rfl
  | _, _, (t, c) :: r, m, p, h, h1 => by
    have := h.2.le
    simp only [List.cons_append, cnt]
    rw [if_neg (by omega)]
    exact cnt_right m h.2 h1
theorem Tr.Cov.congr {f g : Nat → Int} : ∀ {t : Tr} {k a : Nat} {s : Int}, Tr.Cov f t k a s → (∀ p, a ≤ p → p < a + 2 ^ k → g p = f p) → Tr.Cov g t k a s
  | .leaf n, k, a, s, h, e => fun p h1 h2 => (e p h1 h2).trans (h p h1 h2)
  | .node _ _ _, 0, _, _, h, _ => h.elim
  | .node n l r, k + 1, a, s, ⟨h1, h2⟩, e => by
    have hp := Nat.two_pow_pos k
    rw [Nat.pow_succ] at e
    exact ⟨h1.congr fun p a b => e p a (by omega), h2.congr fun p a b => e p (by omega) (by omega)⟩
theorem steps_cov : ∀ (t : Tr) (k a : Nat) (s : Int), t.depth ≤ k → Tr.Cov (cnt (stepsT t a (2 ^ k) s)) t k a s
  | .leaf n, k, a, s, _ => fun p h1 h2 => by simp only [stepsT, cnt]; rw [if_pos h2]
  | .node n l r, 0, a, s, h => by simp [Tr.depth] at h
  | .node n l r, k + 1, a, s, h => by
    simp only [Tr.depth] at h
    have e2 : 2 ^ (k + 1) / 2 = 2 ^ k := by rw [Nat.pow_succ]; omega
    have g1 := steps_seg l k a (s + n) (by omega)
    simp only [stepsT, e2]
    refine ⟨(steps_cov l k a (s + n) (by omega)).congr fun p h1 h2 => cnt_left _ g1 h2 h1, (steps_cov r k (a + 2 ^ k) (s + n) (by omega)).congr fun p h1 h2 => cnt_right _ g1 h1⟩
/-- Values within bounds. -/
def InB (l : List St) : Prop := ∀ r ∈ l, 0 ≤ r.2 ∧ r.2 ≤ 4611686018427387904
theorem steps_in : ∀ (t : Tr) (a z : Nat) (s : Int), 0 ≤ s → t.okc (4611686018427387904 - s) = true → InB (stepsT t a z s)
  | .leaf n, a, z, s, h0, h => by
    have := okc_N _ _ h
    simp only [Tr.N] at this
    intro r hr
    simp only [stepsT, List.mem_singleton] at hr
    subst hr
    simp only; omega
  | .node n l r, a, z, s, h0, h => by
    simp only [Tr.okc, Bool.and_eq_true_iff, decide_eq_true_eq] at h
    have e : (4611686018427387904 : Int) - (s + n) = 4611686018427387904 - s - n := by omega
    intro x hx
    simp only [stepsT] at hx
    rcases List.mem_append.1 hx with hx | hx
    · exact steps_in l a (z / 2) (s + n) (by omega) (by rw [e]; exact h.2.1) x hx
    · exact steps_in r (a + z / 2) (z / 2) (s + n) (by omega) (by rw [e]; exact h.2.2) x hx
/-- Steps, of a range alone. -/
def withW (was : Nat) : List St → Nat → Nat → List St
  | [], _, _ => []
  | (t, c) :: r, a, n => (if max was a < min t (a + n) then [(min t (a + n), c)] else []) ++ withW t r a n
theorem withW_len : ∀ (l : List St) (was a n : Nat), (withW was l a n).length ≤ l.length
  | [], _, _, _ => Nat.le_refl _
  | (t, c) :: r, was, a, n => by
    have := withW_len r t a n
    simp only [withW, List.length_append, List.length_cons]
    split <;> simp <;> omega
theorem withW_mem : ∀ (l : List St) (was a n : Nat), ∀ r ∈ withW was l a n, r.1 ≤ a + n ∧ ∃ x ∈ l, x.2 = r.2
  | [], _, _, _, r, h => by simp [withW] at h
  | (t, c) :: l, was, a, n, r, h => by
    simp only [withW] at h
    rcases List.mem_append.1 h with h | h
    · split at h
      · simp only [List.mem_singleton] at h
        subst h
        exact ⟨by simp only; omega, (t, c), List.mem_cons_self, rfl⟩
      · cases h
    · obtain ⟨h1, x, hx, e⟩ := withW_mem l t a n r h
      exact ⟨h1, x, List.mem_cons_of_mem _ hx, e⟩
theorem withW_in {l : List St} (h : InB l) (was a n : Nat) : InB (withW was l a n) := fun r hr => by
  obtain ⟨_, x, hx, e⟩ := withW_mem l was a n r hr
  rw [← e]; exact h x hx
/-- Steps that go on, some of them maybe of no width. -/
def Sea : Nat → List St → Nat → Prop
  | a, [], e => a = e
  | a, (t, _) :: r, e => a ≤ t ∧ Sea t r e
theorem Seg.sea : ∀ {a e : Nat} {l : List St}, Seg a l e → Sea a l e
  | _, _, [], h => h
  | _, _, _ :: _, h => ⟨Nat.le_of_lt h.1, h.2.sea⟩
theorem Sea.le : ∀ {a e : Nat} {l : List St}, Sea a l e → a ≤ e
  | _, _, [], h => Nat.le_of_eq h
  | _, _, _ :: _, h => Nat.le_trans h.1 h.2.le
theorem withW_out : ∀ (l : List St) (was a n : Nat) (e : Nat), Sea was l e → a + n ≤ was → withW was l a n = []
  | [], _, _, _, _, _, _ => rfl
  | (t, c) :: l, was, a, n, e, h, hw => by
    simp only [withW]
    rw [if_neg (by omega), withW_out l t a n e h.2 (by have := h.1; omega)]; rfl
theorem withW_seg : ∀ (l : List St) (was a n e : Nat), Sea was l e → a + n ≤ e → was ≤ a + n → Seg (max was a) (withW was l a n) (a + n) ∧ ∀ p, max was a ≤ p → p < a + n → cnt (withW was l a n) p = cnt l p
  | [], was, a, n, e, h, he, hw => by
    have : was = e := h
    exact ⟨by show max was a = a + n; omega, fun p h1 h2 => by omega⟩
  | (t, c) :: l, was, a, n, e, h, he, hw => by
    obtain ⟨h1, h2⟩ := h
    by_cases ht : a + n ≤ t
    · have eo := withW_out l t a n e h2 ht
      simp only [withW, eo, List.append_nil]
      by_cases hc : max was a < min t (a + n)
      · rw [if_pos hc]
        refine ⟨⟨hc, by show min t (a + n) = a + n; omega⟩, fun p p1 p2 => ?_⟩
        simp only [cnt]
        rw [if_pos (by omega), if_pos (by omega)]
      · rw [if_neg hc]
        exact ⟨by show max was a = a + n; omega, fun p p1 p2 => by omega⟩
    · obtain ⟨g1, g2⟩ := withW_seg l t a n e h2 he (by omega)
      simp only [withW]
      by_cases hc : max was a < min t (a + n)
      · rw [if_pos hc]
        have em : min t (a + n) = t := by omega
        have ex : max t a = t := by omega
        rw [ex] at g1 g2
        rw [em]
        refine ⟨⟨by omega, g1⟩, fun p p1 p2 => ?_⟩
        simp only [List.cons_append, List.nil_append, cnt]
        by_cases hp : p < t
        · rw [if_pos hp, if_pos hp]
        · rw [if_neg hp, if_neg hp]; exact g2 p (by omega) p2
      · rw [if_neg hc, List.nil_append]
        have ex : max t a = max was a := by omega
        rw [ex] at g1 g2
        refine ⟨g1, fun p p1 p2 => ?_⟩
        rw [g2 p p1 p2]
        simp only [cnt]
        rw [if_neg (by omega)]
/-- The least and the greatest of steps. -/
def minL : List St → Int → Int
  | [], m => m
  | (_, c) :: r, m => minL r (min m c)
def maxL : List St → Int → Int
  | [], m => m
  | (_, c) :: r, m => maxL r (max m c)
theorem minL_le : ∀ (l : List St) (m : Int), minL l m ≤ m ∧ ∀ x ∈ l, minL l m ≤ x.2
  | [], m => ⟨Int.le_refl _, by simp⟩
  | (t, c) :: r, m => by
    have h := minL_le r (min m c)
    refine ⟨by simp only [minL]; omega, fun x hx => ?_⟩
    rcases List.mem_cons.1 hx with rfl | hx
    · simp only [minL]; omega
    · exact h.2 x hx
theorem minL_at : ∀ (l : List St) (m : Int), minL l m = m ∨ ∃ x ∈ l, minL l m = x.2
  | [], m => .inl rfl
  | (t, c) :: r, m => by
    rcases minL_at r (min m c) with h | ⟨x, hx, h⟩
    · simp only [minL]
      by_cases hc : m ≤ c
      · left; omega
      · right; exact ⟨(t, c), List.mem_cons_self, by simp only; omega⟩
    · right; exact ⟨x, List.mem_cons_of_mem _ hx, h⟩
theorem le_maxL : ∀ (l : List St) (m : Int), m ≤ maxL l m ∧ ∀ x ∈ l, x.2 ≤ maxL l m
  | [], m => ⟨Int.le_refl _, by simp⟩
  | (t, c) :: r, m => by
    have h := le_maxL r (max m c)
    refine ⟨by simp only [maxL]; omega, fun x hx => ?_⟩
    rcases List.mem_cons.1 hx with rfl | hx
    · simp only [maxL]; omega
    · exact h.2 x hx
theorem maxL_at : ∀ (l : List St) (m : Int), maxL l m = m ∨ ∃ x ∈ l, maxL l m = x.2
  | [], m => .inl rfl
  | (t, c) :: r, m => by
    rcases maxL_at r (max m c) with h | ⟨x, hx, h⟩
    · simp only [maxL]
      by_cases hc : c ≤ m
      · left; omega
      · right; exact ⟨(t, c), List.mem_cons_self, by simp only; omega⟩
    · right; exact ⟨x, List.mem_cons_of_mem _ hx, h⟩
theorem seg_at : ∀ {a e : Nat} {l : List St}, Seg a l e → ∀ x ∈ l, ∃ p, a ≤ p ∧ p < e ∧ cnt l p = x.2
  | _, _, [], _, x, hx => by cases hx
  | a, e, (t, c) :: r, h, x, hx => by
    have hle := h.2.le
    rcases List.mem_cons.1 hx with rfl | hx
    · exact ⟨a, Nat.le_refl _, by have := h.1; omega, by simp only [cnt]; rw [if_pos h.1]⟩
    · obtain ⟨p, h1, h2, h3⟩ := seg_at h.2 x hx
      exact ⟨p, by have := h.1; omega, h2, by simp only [cnt]; rw [if_neg (by omega)]; exact h3⟩
theorem cnt_mem : ∀ {a e : Nat} {l : List St} {p : Nat}, Sea a l e → p < e → a ≤ p → ∃ x ∈ l, cnt l p = x.2
  | _, _, [], _, h, h1, h2 => by cases h; omega
  | a, e, (t, c) :: r, p, h, h1, h2 => by
    by_cases hp : p < t
    · exact ⟨(t, c), List.mem_cons_self, by simp only [cnt]; rw [if_pos hp]⟩
    · obtain ⟨x, hx, e⟩ := cnt_mem h.2 h1 (by omega)
      exact ⟨x, List.mem_cons_of_mem _ hx, by simp only [cnt]; rw [if_neg hp]; exact e⟩
/-- Of steps that go through a range, the least and the greatest are those of the counts. -/
theorem seg_ends {l : List St} {k a : Nat} {c0 : St} (h : Seg a l (a + 2 ^ k)) (h0 : l[0]? = some c0) : minL l c0.2 = Tr.lo (cnt l) k a ∧ maxL l c0.2 = Tr.hi (cnt l) k a := by
  have hm : c0 ∈ l := List.mem_of_getElem? h0
  constructor
  · obtain ⟨p, p1, p2, p3⟩ := Tr.lo_at (cnt l) k a
    obtain ⟨x, hx, e⟩ := cnt_mem h.sea p2 p1
    have h1 := (minL_le l c0.2).2 x hx
    have h2 : ∃ y ∈ l, minL l c0.2 = y.2 := by
      rcases minL_at l c0.2 with h | h
      · exact ⟨c0, hm, h⟩
      · exact h
    obtain ⟨y, hy, ey⟩ := h2
    obtain ⟨q, q1, q2, q3⟩ := seg_at h y hy
    have := Tr.lo_le (cnt l) k a q q1 q2
    omega
  · obtain ⟨p, p1, p2, p3⟩ := Tr.hi_at (cnt l) k a
    obtain ⟨x, hx, e⟩ := cnt_mem h.sea p2 p1
    have h1 := (le_maxL l c0.2).2 x hx
    have h2 : ∃ y ∈ l, maxL l c0.2 = y.2 := by
      rcases maxL_at l c0.2 with h | h
      · exact ⟨c0, hm, h⟩
      · exact h
    obtain ⟨y, hy, ey⟩ := h2
    obtain ⟨q, q1, q2, q3⟩ := seg_at h y hy
    have := Tr.le_hi (cnt l) k a q q1 q2
    omega
theorem lo_congr {h g : Nat → Int} : ∀ (k a : Nat), (∀ p, a ≤ p → p < a + 2 ^ k → h p = g p) → Tr.lo h k a = Tr.lo g k a ∧ Tr.hi h k a = Tr.hi g k a
  | 0, a, e => by simp only [Tr.lo, Tr.hi]; rw [e a (Nat.le_refl _) (by simp)]; exact ⟨rfl, rfl⟩
  | k + 1, a, e => by
    rw [Nat.pow_succ] at e
    have hp := Nat.two_pow_pos k
    have h1 := lo_congr k a fun p h1 h2 => e p h1 (by omega)
    have h2 := lo_congr k (a + 2 ^ k) fun p h1 h2 => e p (by omega) (by omega)
    simp only [Tr.lo, Tr.hi]
    rw [h1.1, h1.2, h2.1, h2.2]; exact ⟨rfl, rfl⟩
theorem lo_in {h : Nat → Int} (k a : Nat) {m M : Int} (e : ∀ p, a ≤ p → p < a + 2 ^ k → m ≤ h p ∧ h p ≤ M) : m ≤ Tr.lo h k a ∧ Tr.hi h k a ≤ M := by
  obtain ⟨p, h1, h2, h3⟩ := Tr.lo_at h k a
  obtain ⟨q, g1, g2, g3⟩ := Tr.hi_at h k a
  have := e p h1 h2
  have := e q g1 g2
  omega
/-- Two meanings' steps together. -/
def bothS : List St → List St → List St
  | (t, c) :: r, (u, d) :: s => (min t u, max c d) :: (if t = min t u then (if u = min t u then bothS r s else bothS r ((u, d) :: s)) else (if u = min t u then bothS ((t, c) :: r) s else []))
  | _, _ => []
termination_by a b => a.length + b.length
decreasing_by all_goals (simp only [List.length_cons]; omega)
def bothL : List St → List St → Bool → Bool
  | (t, c) :: r, (u, d) :: s, q => if t = min t u then (if u = min t u then bothL r s (q && decide (c ≤ d)) else bothL r ((u, d) :: s) (q && decide (c ≤ d))) else (if u = min t u then bothL ((t, c) :: r) s (q && decide (c ≤ d)) else q)
  | _, _, q => q
termination_by a b => a.length + b.length
decreasing_by all_goals (simp only [List.length_cons]; omega)
end Go.Proofs.YtoaglkjpjolacaaGreatDoor.E
namespace Go.Proofs.YtoaglkjpjolacaaGreatDoor.E
open Go.RowKit
/-- An append whose run is known. -/
theorem wpList_append_run {P : Program} {w w' : World} {v' : Value} {ops : Array Oper} {rest : List Oper} {o : Oper} {a : Act} {Q : Exit → Act → World → Prop} (hgd : o.guard = none) (s x : Operand) (t u : TypeId)
    (ho : o.op = .call { callee := .builtin .append, args := #[s, x], argTypes := #[t, u] }) (vs vx : Value) (hs : a.eval s = vs) (hx : a.eval x = vx) (hrun : (Builtin.append_ #[t, u] o.type #[vs, vx]).run P w = .ok v' w')
    (h : wpList P ops Q rest (a.put o.dst v') w') : wpList P ops Q (o :: rest) a w :=
  wpList_plain hgd fun _ hK => by
    unfold Oper.wp execOp
    simp only [ho, resolve, invoke, builtin, Sem.run_bind, Sem.run_pure, Result.andThen_ok, List.map_toArray, List.map_cons, List.map_nil, hs, hx, hrun]
    exact hK _ _ h

/-- Ranges as cells; a slice of ranges of the call's own, nil if it holds none. -/
def cellsR (l : List St) : List Value := l.flatMap fun r => [.int .u64 (r.1 : Int), .int .i64 r.2]
theorem cellsR_length (l : List St) : (cellsR l).length = l.length * 2 := by
  induction l with
  | nil => rfl
  | cons p t ih => simp [cellsR] at ih ⊢; omega
theorem cellsR_get : ∀ (l : List St) (j : Nat) (r : St), l[j]? = some r → (cellsR l)[j * 2]? = some (.int .u64 (r.1 : Int)) ∧ (cellsR l)[j * 2 + 1]? = some (.int .i64 r.2)
  | [], j, p, h => by simp at h
  | q :: t, 0, p, h => by simp at h; subst h; simp [cellsR]
  | q :: t, j + 1, p, h => by
    have ih := cellsR_get t j p (by simpa using h)
    have e : cellsR (q :: t) = .int .u64 (q.1 : Int) :: .int .i64 q.2 :: cellsR t := by simp [cellsR]
    rw [e, show (j + 1) * 2 = j * 2 + 1 + 1 by omega]
    simp only [List.getElem?_cons_succ]
    exact ih
/-- A slice of ranges that reads as l and lies below block B. -/
def RowR (w : World) (B : Nat) (A : Option Addr) (l : List St) : Prop :=
  0 < l.length → ∃ b off, A = some ⟨b, off, none⟩ ∧ b < B ∧ ∀ j r, l[j]? = some r → w.cell? ⟨b, off + j * 2, none⟩ = some (.int .u64 (r.1 : Int)) ∧ w.cell? ⟨b, off + j * 2 + 1, none⟩ = some (.int .i64 r.2)
theorem RowR.keep {w w' : World} {B : Nat} {A : Option Addr} {l : List St} (h : RowR w B A l) (hk : ∀ p : Addr, p.block < B → w'.cell? p = w.cell? p) : RowR w' B A l :=
  fun hn => by obtain ⟨b, off, e, hb, hc⟩ := h hn; exact ⟨b, off, e, hb, fun j p hj => ⟨(hk _ hb).trans (hc j p hj).1, (hk _ hb).trans (hc j p hj).2⟩⟩
theorem RowR.below {w w' : World} {B : Nat} {A : Option Addr} {l : List St} (h : RowR w B A l) (hb : Below B w w') : RowR w' B A l := h.keep fun _ hp => hb.cell hp
theorem RowR.more {w : World} {B B' : Nat} {A : Option Addr} {l : List St} (h : RowR w B A l) (hB : B ≤ B') : RowR w B' A l := fun hn => by obtain ⟨b, off, e, hb, hc⟩ := h hn; exact ⟨b, off, e, by omega, hc⟩
theorem RowR.up {w w' : World} {A : Option Addr} {l : List St} (h : RowR w w.heap.size A l) (hb : Below w.heap.size w w') : RowR w' w'.heap.size A l := (h.below hb).more hb.size
def GrR (w : World) (base : Nat) (A : Option Addr) (c : Nat) (l : List St) : Prop := w.ownsRow base 152 2 (.slice A l.length c) l.length (cellsR l)
theorem GrR.nil (w : World) (base : Nat) : GrR w base none 0 [] := ⟨by simp [cellsR], .inl ⟨rfl, rfl⟩⟩
theorem GrR.cases {w : World} {base : Nat} {A : Option Addr} {c : Nat} {l : List St} (h : GrR w base A c l) : (A = none ∧ l = [] ∧ c = 0) ∨ ∃ g cur, A = some ⟨g, 0, none⟩ ∧ base ≤ g ∧ w.heap[g]? = some (.cells cur 152 (0, 0)) ∧ l.length ≤ c ∧ c ≤ maxLen ∧ cur.size = c * 2 ∧ cur.toList.take (l.length * 2) = cellsR l := by
  rcases h.2 with ⟨e, h0⟩ | ⟨g, cap, cur, e, hb, hc, h1, h2, h3, h4⟩
  · injection e with e1 e2 e3
    exact .inl ⟨e1, List.eq_nil_of_length_eq_zero e2, e3⟩
  · injection e with e1 e2 e3
    subst e1; subst e3
    exact .inr ⟨g, cur, rfl, hb, hc, h1, h2, h3, h4⟩
theorem GrR.row {w : World} {base c : Nat} {A : Option Addr} {l : List St} (h : GrR w base A c l) : RowR w w.heap.size A l := by
  rcases h.cases with ⟨rfl, rfl, rfl⟩ | ⟨g, cur, rfl, hb, hc, h1, h2, h3, h4⟩
  · intro hn; simp at hn
  · refine fun _ => ⟨g, 0, rfl, (Array.getElem?_eq_some_iff.1 hc).1, fun j p hp => ?_⟩
    have hj := (List.getElem?_eq_some_iff.1 hp).1
    have hcell : ∀ k, k < l.length * 2 → w.cell? ⟨g, k, none⟩ = (cellsR l)[k]? := fun k hk => by
      rw [cell_of_row w g k cur 152 (0, 0) hc, ← h4, List.getElem?_take, if_pos hk]; simp
    obtain ⟨g0, g1⟩ := cellsR_get l j p hp
    refine ⟨?_, ?_⟩
    · rw [Nat.zero_add, hcell _ (by omega), g0]
    · rw [Nat.zero_add, hcell _ (by omega), g1]
theorem GrR.own {w : World} {base c : Nat} {A : Option Addr} {l : List St} (h : GrR w base A c l) : ∀ k, (Value.slice A l.length c).ownBlock = some k → base ≤ k ∧ k < w.heap.size := by
  rcases h.cases with ⟨rfl, rfl, rfl⟩ | ⟨g, cur, rfl, hb, hc, _⟩
  · intro k e; simp [Value.ownBlock] at e
  · intro k e
    simp only [Value.ownBlock, Option.some.injEq] at e
    subst e
    exact ⟨hb, (Array.getElem?_eq_some_iff.1 hc).1⟩
theorem GrR.below {w w' : World} {base c B : Nat} {A : Option Addr} {l : List St} (h : GrR w base A c l) (hb : Below B w w') (hB : w.heap.size ≤ B) : GrR w' base A c l := by
  refine ⟨h.1, ?_⟩
  rcases h.2 with ⟨e, h0⟩ | ⟨g, cap, cur, e, hb', hc, h1⟩
  · exact .inl ⟨e, h0⟩
  · have := (Array.getElem?_eq_some_iff.1 hc).1
    exact .inr ⟨g, cap, cur, e, hb', (hb.block g (by omega)).trans hc, h1⟩
theorem info90 : (Tryz.prog.info? 152).map (fun i => (i.zero, i.size, i.bytes)) = some (some (.agg #[.int .u64 0, .int .i64 0]), 2, 16) := by kernel_rfl
theorem oneCell_cellsR (l : List St) : ∀ v ∈ cellsR l, v.oneCell' = true := by
  intro v hv
  obtain ⟨p, _, h⟩ := List.mem_flatMap.1 hv
  simp only [List.mem_cons, List.not_mem_nil, or_false] at h
  rcases h with rfl | rfl <;> rfl
/-- Whatever is not a row of ranges lies as it lay. -/
def Fr (w w' : World) : Prop := ∀ (k : Nat) (o : Obj), w.heap[k]? = some o → (∀ cs fr, o ≠ .cells cs 152 fr) → w'.heap[k]? = some o
theorem Fr.refl (w : World) : Fr w w := fun _ _ h _ => h
theorem Fr.trans {a b c : World} (h : Fr a b) (g : Fr b c) : Fr a c := fun k o hk ho => g k o (h k o hk ho) ho
theorem Fr.alloc (w : World) (x : Obj) : Fr w (w.alloc x) := fun k _ hk _ => (Below.heap_alloc w x k (Array.getElem?_eq_some_iff.1 hk).1).trans hk
theorem Fr.cell {w w' : World} (h : Fr w w') {k : Nat} {cs : Array Value} {t : TypeId} (hk : w.heap[k]? = some (.cells cs t (0, 0))) (ht : t ≠ 152) : w'.heap[k]? = some (.cells cs t (0, 0)) := h k _ hk (fun cs' fr e => by injection e with _ e2 _; exact ht e2)
theorem GrR.fr {w w' : World} {base c : Nat} {A : Option Addr} {l : List St} (h : GrR w base A c l) (hg : w.grownBy w' (Value.slice A l.length c).ownBlock) : Fr w w' := fun k o hk ho => by
  refine (hg.block k (Array.getElem?_eq_some_iff.1 hk).1 (fun e => ?_)).trans hk
  rcases h.cases with ⟨rfl, h2, rfl⟩ | ⟨g, cur, rfl, _, hc, _⟩
  · simp [Value.ownBlock] at e
  · obtain rfl : k = g := by simpa [Value.ownBlock] using e
    rw [hc] at hk
    injection hk with hk
    exact ho cur (0, 0) hk.symm
/-- append(out, r): one range, in a block of its own. -/
theorem GrR.one {w : World} {base c : Nat} {A : Option Addr} {l : List St} (h : GrR w base A c l) (r : St) (ty : TypeId) (hb : l.length ≤ 10000000) (hbase : base ≤ w.heap.size) :
    ∃ A' c' w', (Builtin.append_ #[91, 91] ty #[.slice A l.length c, .slice (some ⟨w.heap.size, 0, none⟩) 1 1]).run Tryz.prog (w.alloc (.cells #[.int .u64 (r.1 : Int), .int .i64 r.2] 152)) = .ok (.slice A' (l.length + 1) c') w' ∧ GrR w' base A' c' (l ++ [r]) ∧ Below base w w' ∧ Fr w w' := by
  obtain ⟨i0, hi, hz0, hz1, hz2⟩ := info_parts info90
  have hB0 : Below base w (w.alloc (.cells #[.int .u64 (r.1 : Int), .int .i64 r.2] 152)) := (Below.refl _ w).alloc hbase _
  have hBt : Below w.heap.size w (w.alloc (.cells #[.int .u64 (r.1 : Int), .int .i64 r.2] 152)) := (Below.refl _ w).alloc (Nat.le_refl _) _
  have hcell : ∀ j u, (cellsR [r])[j]? = some u → (w.alloc (.cells #[.int .u64 (r.1 : Int), .int .i64 r.2] 152)).cell? ((⟨w.heap.size, 0, none⟩ : Addr).add j) = some u := by
    intro j u hu
    have e : (⟨w.heap.size, 0, none⟩ : Addr).add j = ⟨w.heap.size, j, none⟩ := by
      unfold Addr.add; split
      · rename_i h; subst h; rfl
      · simp
    rw [e, cell_of_row _ _ j _ 152 (0, 0) (heap_alloc_new w _)]
    simpa [cellsR] using hu
  obtain ⟨v', w', hrun, ho, hg, hn⟩ := run_append_own_wide (P := Tryz.prog) (w.alloc (.cells #[.int .u64 (r.1 : Int), .int .i64 r.2] 152)) base 91 ty 152 i0 (.agg #[.int .u64 0, .int .i64 0]) 2 16 Tryz.underlying91 hi hz0 hz1 hz2 rfl (by decide) _ _ _ (h.below hBt (Nat.le_refl _)) _ 1 1 (cellsR [r]) (by simp [cellsR]) hcell (oneCell_cellsR [r]) (by unfold maxLen; omega) (by omega) (by simp; omega)
  have hB : Below base w w' := hB0.grown hg (by simp; omega) (fun k e => (h.own k e).1)
  have e2 : cellsR (l ++ [r]) = cellsR l ++ cellsR [r] := by simp [cellsR]
  have e3 : (l ++ [r]).length = l.length + 1 := by simp
  rcases ho.2 with ⟨e, h0⟩ | ⟨g', cap', cur, e, _⟩
  · omega
  · rw [e] at hrun ho
    exact ⟨_, _, w', hrun, by unfold GrR; rw [e2, e3]; exact ho, hB, (Fr.alloc w _).trans ((h.below hBt (Nat.le_refl _)).fr hg)⟩
def LaysR (l : List St) (base : Nat) (w : World) (e : Ending) (w' : World) : Prop := ∃ A c, e = .returned (.slice A l.length c) ∧ GrR w' base A c l ∧ Below base w w' ∧ Fr w w'


/-- A variable of two cells that is no row of steps. -/
theorem Fr.at2 {w w' : World} (h : Fr w w') {g : Nat} {u v : Value} (hb : w.heap[g]? = some (.cells #[u, v] 27 (0, 0))) : w'.cell? ⟨g, 0, none⟩ = some u ∧ w'.cell? ⟨g, 1, none⟩ = some v := by
  have h2 := h.cell hb (by decide)
  exact ⟨by rw [cell_of_row w' g 0 _ 27 (0, 0) h2]; rfl, by rw [cell_of_row w' g 1 _ 27 (0, 0) h2]; rfl⟩

set_option maxRecDepth 100000 in
set_option maxHeartbeats 3200000 in
theorem steps_any : ∀ (t : Tr) (k n a : Nat) (s : Int) (A : Option Addr) (c : Nat) (l : List St) (base : Nat) (v : Value) (w : World), t.depth ≤ k → n = 2 ^ k → a + n ≤ 1000000000000 → l.length + t.nodes ≤ 1000000 → 0 ≤ s → s ≤ 4611686018427387904 → t.okc (4611686018427387904 - s) = true → InT w base t v → GrR w base A c l → base ≤ w.heap.size →
    Calls Tryz.prog 133 #[.slice A l.length c, v, .int .u64 (a : Int), .int .u64 (n : Int), .int .i64 s] w (LaysR (l ++ stepsT t a n s) base w) := by
  intro t
  induction t with
  | leaf o =>
    rintro k n a s A c l base v w hd hn ha hl hs hs2 hok ⟨A1, c1, rfl⟩ hg hbase
    have ho := okc_N _ _ hok
    simp only [Tr.N] at ho
    unfold tv
    have HR : Hid (l ++ stepsT (.leaf o) a n s = l ++ [(a + n, s + o)]) := rfl
    have hb0 : Below w.heap.size w (w.alloc (.cells #[.int .i64 o, .slice A1 0 c1] 27)) := (Below.refl _ w).alloc (Nat.le_refl _) _
    obtain ⟨A2, c2, w2, hap, hg2, hb2, hf2⟩ := (hg.below hb0 (Nat.le_refl _)).one (a + n, s + o) 91 (by simp [Tr.nodes] at hl; omega) (by simp; omega)
    simp only [World.size_alloc, show ((a + n : Nat) : Int) = (a : Int) + (n : Int) by omega] at hap
    have HAP := Lib.hid hap
    have HG2 := Lib.hid hg2
    have HB2 : Hid (Below base w w2) := ((Below.refl _ w).alloc hbase _).trans hb2
    have HF2 : Hid (Fr w w2) := (Fr.alloc w _).trans hf2
    clear hn hg hap hg2 hb2 hf2 hb0 hok
    go_enter Tryz.func133, Tryz.ntmps133
    go_wp2_with (at_builtin; refine wpList_append_run rfl _ _ _ _ rfl _ _ rfl rfl HAP.out ?_; clear HAP)
    go_ret
    refine ⟨A2, c2, ?_, ?_, HB2.out, HF2.out⟩
    · rw [HR.out, List.length_append]; rfl
    · rw [HR.out]; exact HG2.out
  | node o x y ihx ihy =>
    rintro k n a s A c l base v w hd hn ha hl hs hs2 hok ⟨b, off, c1, rfl, hb, ⟨o1, A1, n1, d1, e1, e2, e3⟩, ⟨o2, A2, n2, d2, g1, g2, g3⟩⟩ hg hbase
    have hb : b < base := hb
    unfold tv
    simp only [Tr.okc, Bool.and_eq_true_iff, decide_eq_true_eq] at hok
    have es : (4611686018427387904 : Int) - (s + o) = 4611686018427387904 - s - o := by omega
    obtain ⟨k, rfl⟩ : ∃ k', k = k' + 1 := ⟨k - 1, by simp only [Tr.depth] at hd; omega⟩
    obtain ⟨h, hh⟩ : ∃ h, 2 ^ k = h := ⟨_, rfl⟩
    have hn2 : n = h * 2 := by rw [hn, Nat.pow_succ, hh]
    have hq : (n : Int).tdiv 2 = (h : Int) := by rw [Int.tdiv_eq_ediv_of_nonneg (by omega)]; omega
    have hwh : IntKind.u64.wrap (h : Int) = (h : Int) := by rw [IntKind.wrap_u64]; omega
    have hwa : IntKind.u64.wrap ((a : Int) + (h : Int)) = (a : Int) + (h : Int) := by rw [IntKind.wrap_u64]; omega
    have hws : IntKind.i64.wrap (s + o) = s + o := wrap_id (by omega) (by omega)
    simp only [Tr.depth] at hd
    simp only [Tr.nodes] at hl
    have HR : Hid (l ++ stepsT (.node o x y) a n s = (l ++ stepsT x a h (s + o)) ++ stepsT y (a + h) h (s + o)) := by
      show _ = _
      simp only [stepsT, show n / 2 = h by omega, List.append_assoc]
    have hlx : (stepsT x a h (s + o)).length ≤ x.nodes := steps_len x a h (s + o)
    obtain ⟨W0, hW0⟩ : ∃ W0, w.alloc (.cells #[.int .i64 o, .slice (some ⟨b, off, none⟩) 2 c1] 27) = W0 := ⟨_, rfl⟩
    have hB0 : Below base w W0 := by rw [← hW0]; exact (Below.refl _ w).alloc hbase _
    have hBt : Below w.heap.size w W0 := by rw [← hW0]; exact (Below.refl _ w).alloc (Nat.le_refl _) _
    have hbox : W0.heap[w.heap.size]? = some (.cells #[.int .i64 o, .slice (some ⟨b, off, none⟩) 2 c1] 27 (0, 0)) := by rw [← hW0]; exact heap_alloc_new w _
    have HC1 : Hid (Calls Tryz.prog 133 #[.slice A l.length c, .agg #[.int .i64 o1, .slice A1 n1 d1], .int .u64 (a : Int), .int .u64 (h : Int), .int .i64 (s + o)] W0.drew (LaysR (l ++ stepsT x a h (s + o)) base W0.drew)) := ihx k h a (s + o) A c l base (tv o1 A1 n1 d1) W0.drew (by omega) hh.symm (by omega) (by omega) (by omega) (by omega) (by rw [es]; exact hok.2.1) (e3.below hB0.drew) (hg.below hBt.drew (Nat.le_refl _)) (by have := hBt.size; show base ≤ W0.heap.size; omega)
    have HC2 : Hid (∀ W A3 c3 L, Below base w W → L.length ≤ l.length + x.nodes → GrR W base A3 c3 L → Calls Tryz.prog 133 #[.slice A3 L.length c3, .agg #[.int .i64 o2, .slice A2 n2 d2], .int .u64 ((a : Int) + (h : Int)), .int .u64 (h : Int), .int .i64 (s + o)] W (LaysR (L ++ stepsT y (a + h) h (s + o)) base W)) := fun W A3 c3 L hW hL hG => by
      have := ihy k h (a + h) (s + o) A3 c3 L base (tv o2 A2 n2 d2) W (by omega) hh.symm (by omega) (by omega) (by omega) (by omega) (by rw [es]; exact hok.2.2) (g3.below hW) hG (Nat.le_trans hbase hW.size)
      simpa only [tv, show ((a + h : Nat) : Int) = (a : Int) + (h : Int) by omega] using this
    obtain ⟨L, hL⟩ : ∃ L, l ++ stepsT x a h (s + o) = L := ⟨_, rfl⟩
    have hLl : L.length ≤ l.length + x.nodes := by rw [← hL, List.length_append]; omega
    rw [hL] at HC1 HR
    have HFC : Hid (∀ W, (Below base w W ∧ Fr W0 W) → W.cell? ⟨w.heap.size, 0, none⟩ = some (.int .i64 o) ∧ W.cell? ⟨w.heap.size, 1, none⟩ = some (.slice (some ⟨b, off, none⟩) 2 c1) ∧ W.cell? ⟨b, off, none⟩ = some (.int .i64 o1) ∧ W.cell? ⟨b, off + 1, none⟩ = some (.slice A1 n1 d1) ∧ W.cell? ⟨b, off + 2, none⟩ = some (.int .i64 o2) ∧ W.cell? ⟨b, off + 2 + 1, none⟩ = some (.slice A2 n2 d2)) := fun W hW => by
      have low : ∀ i, W.cell? ⟨b, i, none⟩ = w.cell? ⟨b, i, none⟩ := fun i => hW.1.cell hb
      exact ⟨(hW.2.at2 hbox).1, (hW.2.at2 hbox).2, (low _).trans e1, (low _).trans e2, (low _).trans g1, (low _).trans g2⟩
    have hS0 : Below base w W0.drew ∧ Fr W0 W0.drew := ⟨hB0.drew, Fr.refl _⟩
    have HBB := Lib.hid hb
    have H2 := Lib.hid hn2
    have HF0 : Hid (Fr w W0) := by show Fr _ _; rw [← hW0]; exact Fr.alloc w _
    have HW0 := Lib.hid hW0
    clear hg ihx ihy hh e1 e2 e3 g1 g2 g3 hB0 hBt hbox hn hL hlx hb hW0 hok
    go_enter Tryz.func133, Tryz.ntmps133
    go_wp2
    rw [HW0.out]
    refine wp_region_held_drew (S := fun W => Below base w W ∧ Fr W0 W) (by kernel_rfl) hS0 (fun hS => ?_)
    clear hS0
    obtain ⟨wd, hwd⟩ : ∃ wd, W0.drew = wd := ⟨_, rfl⟩
    rw [hwd] at hS HC1 ⊢
    refine wpAnyH_take (i := 0) (v := ?_) rfl (by kernel_rfl) (by kernel_rfl) (by kernel_rfl) (fun _ _ _ h => h) (Yields.yieldsIf (Or.inl ⟨by kernel_rfl, ?_⟩)) hS ?_
    rotate_left
    · first | (intro w; go_simp; done) | (intro w; go_simp; with_reducible rfl)
    refine wpAnyH_take (i := 1) (v := ?_) rfl (by kernel_rfl) (by kernel_rfl) (by kernel_rfl) (fun _ _ _ h => h) (Yields.yieldsIf (Or.inl ⟨by kernel_rfl, ?_⟩)) hS ?_
    rotate_left
    · first | (intro w; go_simp; done) | (intro w; go_simp; with_reducible rfl)
    refine wpAnyH_take (i := 2) (v := ?_) rfl (by kernel_rfl) (by kernel_rfl) (by kernel_rfl) (fun _ _ _ h => h) (Or.inl ⟨by kernel_rfl, fun W hW => ?_⟩) hS ?_
    rotate_left
    · obtain ⟨f0, f1, f2, f3, f4, f5⟩ := HFC.out W hW
      first | (go_simp; done) | (go_simp; with_reducible rfl)
    refine wpAnyH_take (i := 3) (v := ?_) rfl (by kernel_rfl) (by kernel_rfl) (by kernel_rfl) (fun _ _ _ h => h) (Yields.yieldsIf (Or.inl ⟨by kernel_rfl, ?_⟩)) hS ?_
    rotate_left
    · first | (intro w; go_simp; done) | (intro w; go_simp; with_reducible rfl)
    refine wpAnyH_take (i := 4) (v := ?_) rfl (by kernel_rfl) (by kernel_rfl) (by kernel_rfl) (fun _ _ _ h => h) (Or.inl ⟨by kernel_rfl, fun W hW => ?_⟩) hS ?_
    rotate_left
    · obtain ⟨f0, f1, f2, f3, f4, f5⟩ := HFC.out W hW
      first | (go_simp; done) | (go_simp; with_reducible rfl)
    refine wpAnyH_take (i := 5) (v := ?_) rfl (by kernel_rfl) (by kernel_rfl) (by kernel_rfl) (fun _ _ _ h => h) (Yields.yieldsIf (Or.inl ⟨by kernel_rfl, ?_⟩)) hS ?_
    rotate_left
    · first | (intro w; go_simp; done) | (intro w; go_simp; with_reducible rfl)
    refine wpAnyH_take (i := 6) (v := ?_) rfl (by kernel_rfl) (by kernel_rfl) (by kernel_rfl) (fun _ _ _ h => h) (Yields.yieldsIf (Or.inl ⟨by kernel_rfl, ?_⟩)) hS ?_
    rotate_left
    · first | (intro w; go_simp; done) | (intro w; go_simp; with_reducible rfl)
    refine wpAnyH_take (i := 7) (v := ?_) rfl (by kernel_rfl) (by kernel_rfl) (by kernel_rfl) (fun _ _ _ h => h) (Yields.yieldsIf (Or.inl ⟨by kernel_rfl, ?_⟩)) hS ?_
    rotate_left
    · first | (intro w; go_simp; done) | (intro w; go_simp; with_reducible rfl)
    refine wpAnyH_take (i := 8) (v := ?_) rfl (by kernel_rfl) (by kernel_rfl) (by kernel_rfl) (fun _ _ _ h => h) (Yields.yieldsIf (Or.inl ⟨by kernel_rfl, ?_⟩)) hS ?_
    rotate_left
    · first | (intro w; go_simp; done) | (intro w; go_simp; with_reducible rfl)
    refine wpAnyH_take (i := 9) (v := ?_) rfl (by kernel_rfl) (by kernel_rfl) (by kernel_rfl) (fun _ _ _ h => h) (Yields.yieldsIf (Or.inl ⟨by kernel_rfl, ?_⟩)) hS ?_
    rotate_left
    · first | (intro w; go_simp; done) | (intro w; go_simp; with_reducible rfl)
    refine wpAnyH_take (i := 10) (v := ?_) rfl (by kernel_rfl) (by kernel_rfl) (by kernel_rfl) (fun _ _ _ h => h) (Or.inl ⟨by kernel_rfl, fun W hW => ?_⟩) hS ?_
    rotate_left
    · obtain ⟨f0, f1, f2, f3, f4, f5⟩ := HFC.out W hW
      first | (go_simp; done) | (go_simp; with_reducible rfl)
    refine wpAnyH_take (i := 11) (v := ?_) rfl (by kernel_rfl) (by kernel_rfl) (by kernel_rfl) (fun _ _ _ h => h) (Yields.yieldsIf (Or.inl ⟨by kernel_rfl, ?_⟩)) hS ?_
    rotate_left
    · first | (intro w; go_simp; done) | (intro w; go_simp; with_reducible rfl)
    refine wpAnyH_ready (rs := [12]) (by kernel_rfl) (by simp) ?_
    refine AllReadyH.cons rfl (fun K hK => ?_) AllReadyH.nil
    go_simp
    go_wp2_with (go_at_call 133; refine (HC1.out).mono ?_; rintro e w2 ⟨A3, c3, rfl, hg3, hb3, hf3⟩)
    have hS3 : Below base w w2 ∧ Fr W0 w2 := ⟨hS.1.trans hb3, hS.2.trans hf3⟩
    have HG3 := Lib.hid hg3
    clear hb3 hf3 hg3 hS HC1 hwd
    refine hK.out _ _ hS3 (fun hS => ?_)
    clear hK K hS3
    refine wpAnyH_take (i := 13) (v := ?_) rfl (by kernel_rfl) (by kernel_rfl) (by kernel_rfl) (fun _ _ _ h => h) (Yields.yieldsIf (Or.inl ⟨by kernel_rfl, ?_⟩)) hS ?_
    rotate_left
    · first | (intro w; go_simp; done) | (intro w; go_simp; with_reducible rfl)
    refine wpAnyH_done (by kernel_rfl) ?_ _
    have hXD : Below base w w2.drew ∧ Fr W0 w2.drew := ⟨hS.1.drew, hS.2⟩
    have HG4 : Hid (GrR w2.drew base A3 c3 L) := HG3.out.below ((Below.refl w2.heap.size w2).drew) (Nat.le_refl _)
    clear hS HG3
    go_wp2
    refine wp_region_held_drew (S := fun W => Below base w W ∧ Fr W0 W) (by kernel_rfl) hXD (fun hS => ?_)
    clear hXD
    generalize w2.drew = we at hS HG4 ⊢
    refine wpAnyH_take (i := 0) (v := ?_) rfl (by kernel_rfl) (by kernel_rfl) (by kernel_rfl) (fun _ _ _ h => h) (Yields.yieldsIf (Or.inl ⟨by kernel_rfl, ?_⟩)) hS ?_
    rotate_left
    · first | (intro w; go_simp; done) | (intro w; go_simp; with_reducible rfl)
    refine wpAnyH_take (i := 1) (v := ?_) rfl (by kernel_rfl) (by kernel_rfl) (by kernel_rfl) (fun _ _ _ h => h) (Yields.yieldsIf (Or.inl ⟨by kernel_rfl, ?_⟩)) hS ?_
    rotate_left
    · first | (intro w; go_simp; done) | (intro w; go_simp; with_reducible rfl)
    refine wpAnyH_take (i := 2) (v := ?_) rfl (by kernel_rfl) (by kernel_rfl) (by kernel_rfl) (fun _ _ _ h => h) (Or.inl ⟨by kernel_rfl, fun W hW => ?_⟩) hS ?_
    rotate_left
    · obtain ⟨f0, f1, f2, f3, f4, f5⟩ := HFC.out W hW
      first | (go_simp; done) | (go_simp; with_reducible rfl)
    refine wpAnyH_take (i := 3) (v := ?_) rfl (by kernel_rfl) (by kernel_rfl) (by kernel_rfl) (fun _ _ _ h => h) (Yields.yieldsIf (Or.inl ⟨by kernel_rfl, ?_⟩)) hS ?_
    rotate_left
    · first | (intro w; go_simp; done) | (intro w; go_simp; with_reducible rfl)
    refine wpAnyH_take (i := 4) (v := ?_) rfl (by kernel_rfl) (by kernel_rfl) (by kernel_rfl) (fun _ _ _ h => h) (Or.inl ⟨by kernel_rfl, fun W hW => ?_⟩) hS ?_
    rotate_left
    · obtain ⟨f0, f1, f2, f3, f4, f5⟩ := HFC.out W hW
      first | (go_simp; done) | (go_simp; with_reducible rfl)
    refine wpAnyH_take (i := 5) (v := ?_) rfl (by kernel_rfl) (by kernel_rfl) (by kernel_rfl) (fun _ _ _ h => h) (Yields.yieldsIf (Or.inl ⟨by kernel_rfl, ?_⟩)) hS ?_
    rotate_left
    · first | (intro w; go_simp; done) | (intro w; go_simp; with_reducible rfl)
    refine wpAnyH_take (i := 6) (v := ?_) rfl (by kernel_rfl) (by kernel_rfl) (by kernel_rfl) (fun _ _ _ h => h) (Yields.yieldsIf (Or.inl ⟨by kernel_rfl, ?_⟩)) hS ?_
    rotate_left
    · first | (intro w; go_simp; done) | (intro w; go_simp; with_reducible rfl)
    refine wpAnyH_take (i := 7) (v := ?_) rfl (by kernel_rfl) (by kernel_rfl) (by kernel_rfl) (fun _ _ _ h => h) (Yields.yieldsIf (Or.inl ⟨by kernel_rfl, ?_⟩)) hS ?_
    rotate_left
    · first | (intro w; go_simp; done) | (intro w; go_simp; with_reducible rfl)
    refine wpAnyH_take (i := 8) (v := ?_) rfl (by kernel_rfl) (by kernel_rfl) (by kernel_rfl) (fun _ _ _ h => h) (Yields.yieldsIf (Or.inl ⟨by kernel_rfl, ?_⟩)) hS ?_
    rotate_left
    · first | (intro w; go_simp; done) | (intro w; go_simp; with_reducible rfl)
    refine wpAnyH_take (i := 9) (v := ?_) rfl (by kernel_rfl) (by kernel_rfl) (by kernel_rfl) (fun _ _ _ h => h) (Yields.yieldsIf (Or.inl ⟨by kernel_rfl, ?_⟩)) hS ?_
    rotate_left
    · first | (intro w; go_simp; done) | (intro w; go_simp; with_reducible rfl)
    refine wpAnyH_take (i := 10) (v := ?_) rfl (by kernel_rfl) (by kernel_rfl) (by kernel_rfl) (fun _ _ _ h => h) (Yields.yieldsIf (Or.inl ⟨by kernel_rfl, ?_⟩)) hS ?_
    rotate_left
    · first | (intro w; go_simp; done) | (intro w; go_simp; with_reducible rfl)
    refine wpAnyH_take (i := 11) (v := ?_) rfl (by kernel_rfl) (by kernel_rfl) (by kernel_rfl) (fun _ _ _ h => h) (Yields.yieldsIf (Or.inl ⟨by kernel_rfl, ?_⟩)) hS ?_
    rotate_left
    · first | (intro w; go_simp; done) | (intro w; go_simp; with_reducible rfl)
    refine wpAnyH_take (i := 12) (v := ?_) rfl (by kernel_rfl) (by kernel_rfl) (by kernel_rfl) (fun _ _ _ h => h) (Yields.yieldsIf (Or.inl ⟨by kernel_rfl, ?_⟩)) hS ?_
    rotate_left
    · first | (intro w; go_simp; done) | (intro w; go_simp; with_reducible rfl)
    refine wpAnyH_take (i := 13) (v := ?_) rfl (by kernel_rfl) (by kernel_rfl) (by kernel_rfl) (fun _ _ _ h => h) (Or.inl ⟨by kernel_rfl, fun W hW => ?_⟩) hS ?_
    rotate_left
    · obtain ⟨f0, f1, f2, f3, f4, f5⟩ := HFC.out W hW
      first | (go_simp; done) | (go_simp; with_reducible rfl)
    refine wpAnyH_take (i := 14) (v := ?_) rfl (by kernel_rfl) (by kernel_rfl) (by kernel_rfl) (fun _ _ _ h => h) (Yields.yieldsIf (Or.inl ⟨by kernel_rfl, ?_⟩)) hS ?_
    rotate_left
    · first | (intro w; go_simp; done) | (intro w; go_simp; with_reducible rfl)
    refine wpAnyH_ready (rs := [15]) (by kernel_rfl) (by simp) ?_
    refine AllReadyH.cons rfl (fun K hK => ?_) AllReadyH.nil
    go_simp
    go_wp2_with (go_at_call 133; refine (HC2.out we A3 c3 L hS.1 hLl HG4.out).mono ?_; rintro e w4 ⟨A5, c5, rfl, hg5, hb5, hf5⟩)
    have hS3 : Below base w w4 ∧ Fr W0 w4 := ⟨hS.1.trans hb5, hS.2.trans hf5⟩
    have HG5 := Lib.hid hg5
    clear hb5 hf5 hg5 hS HC2 HG4
    refine hK.out _ _ hS3 (fun hS => ?_)
    clear hK K hS3
    refine wpAnyH_take (i := 16) (v := ?_) rfl (by kernel_rfl) (by kernel_rfl) (by kernel_rfl) (fun _ _ _ h => h) (Yields.yieldsIf (Or.inl ⟨by kernel_rfl, ?_⟩)) hS ?_
    rotate_left
    · first | (intro w; go_simp; done) | (intro w; go_simp; with_reducible rfl)
    refine wpAnyH_done (by kernel_rfl) ?_ _
    go_wp2
    go_ret
    refine ⟨A5, c5, ?_, ?_, hS.1, HF0.out.trans hS.2⟩
    · rw [HR.out]; first | rfl | (rw [List.length_append]; rfl)
    · rw [HR.out]; exact HG5.out

set_option maxRecDepth 100000 in
set_option maxHeartbeats 800000 in
theorem means_any (t : Tr) (v : Value) (w : World) (hok : okT t = true) (ht : InT w w.heap.size t v) : Calls Tryz.prog 72 #[v] w (LaysR (stepsT t 0 4294967296 0) w.heap.size w) := by
  obtain ⟨hd, ho, hn⟩ := (okT_iff t).1 hok
  obtain ⟨A, n, c, rfl⟩ := ht.form
  have hb0 : Below w.heap.size w (w.alloc (.cells #[.int .i64 t.N, .slice A n c] 27)) := (Below.refl _ w).alloc (Nat.le_refl _) _
  have hcall := steps_any t 32 4294967296 0 0 none 0 [] w.heap.size (tv t.N A n c) (w.alloc (.cells #[.int .i64 t.N, .slice A n c] 27)) hd rfl (by omega) (by simp; omega) (by omega) (by omega) ho (ht.below hb0) (GrR.nil _ _) (by simp)
  rw [List.nil_append] at hcall
  unfold tv at hcall ⊢
  simp only [List.length_nil, Int.natCast_zero] at hcall
  have HB0 := Lib.hid hb0
  clear hb0 ht hd ho hn hok
  generalize t.N = o at *
  go_enter Tryz.func72, Tryz.ntmps72
  go_wp2_with fail
  refine hcall.mono ?_
  rintro e w1 ⟨A1, c1, rfl, hg1, hb1, hf1⟩
  go_wp2
  go_ret
  exact ⟨A1, c1, rfl, hg1, HB0.out.trans hb1, (Fr.alloc w _).trans hf1⟩
end Go.Proofs.YtoaglkjpjolacaaGreatDoor.E
namespace Go.Proofs.YtoaglkjpjolacaaGreatDoor.E
open Go.RowKit
theorem RowR.at {w : World} {A : Option Addr} {l : List St} (h : RowR w w.heap.size A l) (j : Nat) (hj : j < l.length) : ∃ b off, A = some ⟨b, off, none⟩ ∧ b < w.heap.size ∧ Hid (∀ W, Below w.heap.size w W → W.cell? ⟨b, off + j * 2, none⟩ = some (.int .u64 ((l[j]'hj).1 : Int)) ∧ W.cell? ⟨b, off + j * 2 + 1, none⟩ = some (.int .i64 (l[j]'hj).2)) := by
  obtain ⟨b, off, e, hb, hc⟩ := h (by omega)
  obtain ⟨h1, h2⟩ := hc j _ (List.getElem?_eq_getElem hj)
  exact ⟨b, off, e, hb, fun W hW => ⟨(hW.cell hb).trans h1, (hW.cell hb).trans h2⟩⟩

set_option maxRecDepth 100000 in
set_option maxHeartbeats 3200000 in
theorem within_any (A : Option Addr) (c : Nat) (l : List St) (a n : Nat) (w : World) (hr : RowR w w.heap.size A l) (hl : l.length ≤ 2000000) (hv : ∀ r ∈ l, r.1 ≤ 1000000000000) (ha : a + n ≤ 1000000000000) :
    Calls Tryz.prog 134 #[.slice A l.length c, .int .u64 (a : Int), .int .u64 (n : Int)] w fun e w' => ∃ A' c', e = .returned (.slice A' (withW 0 l a n).length c') ∧ GrR w' w.heap.size A' c' (withW 0 l a n) ∧ Below w.heap.size w w' := by
  have HR := Lib.hid hr
  clear hr
  go_enter Tryz.func134, Tryz.ntmps134
  go_wp2
  go_loopg [7, 8, 9] l.length (fun k o x i wr => ∃ (j was : Nat) (L : List St) (B : Option Addr) (d : Nat), j ≤ l.length ∧ k = l.length - j ∧ i = .int .i64 j ∧ x = .int .u64 was ∧ o = .slice B L.length d ∧ Hid (L ++ withW was (l.drop j) a n = withW 0 l a n) ∧ was ≤ 1000000000000 ∧ L.length ≤ j ∧ Hid (GrR wr w.heap.size B d L) ∧ Hid (Below w.heap.size w wr))
  case atStart => exact ⟨0, 0, [], none, 0, by omega, by omega, rfl, rfl, rfl, rfl, by omega, by simp, GrR.nil _ _, Below.refl _ _⟩
  case round =>
    obtain ⟨j, was, L, B, d, hj, hgk, rfl, rfl, rfl, hL, hwas, hLj, hG, hB⟩ := hrel
    have HGK := Lib.hid hgk; clear hgk
    by_cases hlt : j < l.length
    · obtain ⟨b, off, rfl, hb, F1⟩ := HR.out.at j hlt
      have hv2 := hv _ (List.getElem_mem hlt)
      have HT : Hid (L ++ ((if max was a < min (l[j]'hlt).1 (a + n) then [(min (l[j]'hlt).1 (a + n), (l[j]'hlt).2)] else []) ++ withW (l[j]'hlt).1 (l.drop (j + 1)) a n) = withW 0 l a n) := by
        show _ = _
        rw [← hL.out, List.drop_eq_getElem_cons hlt]; rfl
      obtain ⟨y, hy⟩ : ∃ y, (l[j]'hlt).1 = y := ⟨_, rfl⟩
      obtain ⟨z, hz⟩ : ∃ z, (l[j]'hlt).2 = z := ⟨_, rfl⟩
      rw [hy] at hv2
      simp only [hy, hz] at F1 HT
      obtain ⟨f, hf⟩ : ∃ f, max was a = f := ⟨_, rfl⟩
      obtain ⟨t, ht⟩ : ∃ t, min y (a + n) = t := ⟨_, rfl⟩
      rw [hf, ht] at HT
      have hmx : (if was < a then (a : Int) else (was : Int)) = (f : Int) := by rw [← hf]; split <;> omega
      have hmn : (if (a : Int) + (n : Int) < (y : Int) then (a : Int) + (n : Int) else (y : Int)) = (t : Int) := by rw [← ht]; split <;> omega
      obtain ⟨p0, p1⟩ := F1.out wr hB.out
      have ht2 : t ≤ 1000000000000 := by omega
      have hf2 : f ≤ 1000000000000 := by omega
      clear hy hz hf ht
      by_cases hft : f < t
      · rw [if_pos hft] at HT
        obtain ⟨B6, d6, w6, hap, hg6, hb6, _⟩ := hG.out.one (t, z) 91 (by omega) hB.out.size
        have HB6 : Hid (Below w.heap.size w w6) := hB.out.trans hb6
        obtain ⟨q0, q1⟩ := F1.out w6 HB6.out
        have HT2 : Hid ((L ++ [(t, z)]) ++ withW y (l.drop (j + 1)) a n = withW 0 l a n) := by show _ = _; rw [List.append_assoc]; exact HT.out
        have HAP := Lib.hid hap
        have HG6 := Lib.hid hg6
        clear hap hg6 hb6 HT
        go_wp2_with (at_builtin; refine wpList_append_run rfl _ _ _ _ rfl _ _ rfl rfl HAP.out ?_; clear HAP)
        go_roundg (l.length - (j + 1))
        case measure => have := HGK.out; omega
        case rel => exact ⟨j + 1, y, L ++ [(t, z)], B6, d6, by omega, rfl, by go_num, rfl, by simp, HT2, hv2, by simp; omega, HG6, HB6⟩
      · rw [if_neg hft, List.nil_append] at HT
        go_wp2
        go_roundg (l.length - (j + 1))
        case measure => have := HGK.out; omega
        case rel => exact ⟨j + 1, y, L, B, d, by omega, rfl, by go_num, rfl, rfl, HT, hv2, by omega, hG, hB⟩
    · obtain rfl : j = l.length := by omega
      have HL : Hid (L = withW 0 l a n) := by show _ = _; rw [← hL.out, List.drop_length]; simp [withW]
      go_wp2
      go_ret
      refine ⟨B, d, ?_, ?_, hB.out⟩
      · rw [← HL.out]; rfl
      · rw [← HL.out]; exact hG.out

set_option maxRecDepth 100000 in
set_option maxHeartbeats 1600000 in
theorem least_any (A : Option Addr) (c : Nat) (l : List St) (c0 : St) (w : World) (hr : RowR w w.heap.size A l) (hl : l.length ≤ 2000000) (h0 : l[0]? = some c0) :
    Calls Tryz.prog 135 #[.slice A l.length c] w fun e w' => e = .returned (.int .i64 (minL l c0.2)) ∧ w = w' := by
  have hp : 0 < l.length := (List.getElem?_eq_some_iff.1 h0).1
  obtain ⟨b, off, rfl, hb, hc⟩ := hr hp
  obtain ⟨p0, p1⟩ := hc 0 c0 h0
  simp only [Nat.zero_mul, Nat.add_zero] at p0 p1
  have HC := Lib.hid hc
  clear hr hc
  obtain ⟨z0, hz0⟩ : ∃ z, c0.2 = z := ⟨_, rfl⟩
  rw [hz0] at p1 ⊢
  obtain ⟨len, hlen⟩ : ∃ n, l.length = n := ⟨_, rfl⟩
  have HLEN := Lib.hid hlen
  rw [hlen] at hl hp ⊢
  clear hz0 hlen h0
  go_enter Tryz.func135, Tryz.ntmps135
  go_wp2
  go_loopg [3, 4] len (fun k x i wr => ∃ (j : Nat) (z : Int), j ≤ len ∧ k = len - j ∧ x = .int .i64 z ∧ i = .int .i64 j ∧ Hid (minL (l.drop j) z = minL l z0) ∧ wr = w)
  case atStart => exact ⟨0, z0, by omega, by omega, rfl, rfl, rfl, rfl⟩
  case round =>
    obtain ⟨j, z, hj, hgk, rfl, rfl, hinv, rfl⟩ := hrel
    have HGK := Lib.hid hgk; clear hgk
    by_cases hlt : j < len
    · have hjl : j < l.length := by have := HLEN.out; omega
      obtain ⟨q0, q1⟩ := HC.out j (l[j]'hjl) (List.getElem?_eq_getElem hjl)
      have HI : Hid (minL (l.drop (j + 1)) (min z (l[j]'hjl).2) = minL l z0) := by
        show _ = _
        rw [← hinv.out, List.drop_eq_getElem_cons hjl]; rfl
      obtain ⟨y, hy⟩ : ∃ y, (l[j]'hjl).2 = y := ⟨_, rfl⟩
      rw [hy] at q1 HI
      obtain ⟨z2, hz2⟩ : ∃ z2, min z y = z2 := ⟨_, rfl⟩
      have hmn : (if y < z then y else z) = z2 := by rw [← hz2]; omega
      rw [hz2] at HI
      clear hy hz2 hinv
      go_wp2
      go_roundg (len - (j + 1))
      case measure => have := HGK.out; omega
      case rel => exact ⟨j + 1, z2, by omega, rfl, rfl, by go_num, HI, rfl⟩
    · obtain rfl : j = len := by omega
      have HI : Hid (z = minL l z0) := by
        show _ = _
        rw [← hinv.out, ← HLEN.out, List.drop_length]; rfl
      go_wp2
      go_ret
      exact ⟨ret_int HI.out, rfl⟩

set_option maxRecDepth 100000 in
set_option maxHeartbeats 1600000 in
theorem greatest_any (A : Option Addr) (c : Nat) (l : List St) (c0 : St) (w : World) (hr : RowR w w.heap.size A l) (hl : l.length ≤ 2000000) (h0 : l[0]? = some c0) :
    Calls Tryz.prog 136 #[.slice A l.length c] w fun e w' => e = .returned (.int .i64 (maxL l c0.2)) ∧ w = w' := by
  have hp : 0 < l.length := (List.getElem?_eq_some_iff.1 h0).1
  obtain ⟨b, off, rfl, hb, hc⟩ := hr hp
  obtain ⟨p0, p1⟩ := hc 0 c0 h0
  simp only [Nat.zero_mul, Nat.add_zero] at p0 p1
  have HC := Lib.hid hc
  clear hr hc
  obtain ⟨z0, hz0⟩ : ∃ z, c0.2 = z := ⟨_, rfl⟩
  rw [hz0] at p1 ⊢
  obtain ⟨len, hlen⟩ : ∃ n, l.length = n := ⟨_, rfl⟩
  have HLEN := Lib.hid hlen
  rw [hlen] at hl hp ⊢
  clear hz0 hlen h0
  go_enter Tryz.func136, Tryz.ntmps136
  go_wp2
  go_loopg [3, 4] len (fun k x i wr => ∃ (j : Nat) (z : Int), j ≤ len ∧ k = len - j ∧ x = .int .i64 z ∧ i = .int .i64 j ∧ Hid (maxL (l.drop j) z = maxL l z0) ∧ wr = w)
  case atStart => exact ⟨0, z0, by omega, by omega, rfl, rfl, rfl, rfl⟩
  case round =>
    obtain ⟨j, z, hj, hgk, rfl, rfl, hinv, rfl⟩ := hrel
    have HGK := Lib.hid hgk; clear hgk
    by_cases hlt : j < len
    · have hjl : j < l.length := by have := HLEN.out; omega
      obtain ⟨q0, q1⟩ := HC.out j (l[j]'hjl) (List.getElem?_eq_getElem hjl)
      have HI : Hid (maxL (l.drop (j + 1)) (max z (l[j]'hjl).2) = maxL l z0) := by
        show _ = _
        rw [← hinv.out, List.drop_eq_getElem_cons hjl]; rfl
      obtain ⟨y, hy⟩ : ∃ y, (l[j]'hjl).2 = y := ⟨_, rfl⟩
      rw [hy] at q1 HI
      obtain ⟨z2, hz2⟩ : ∃ z2, max z y = z2 := ⟨_, rfl⟩
      have hmn : (if z < y then y else z) = z2 := by rw [← hz2]; omega
      rw [hz2] at HI
      clear hy hz2 hinv
      go_wp2
      go_roundg (len - (j + 1))
      case measure => have := HGK.out; omega
      case rel => exact ⟨j + 1, z2, by omega, rfl, rfl, by go_num, HI, rfl⟩
    · obtain rfl : j = len := by omega
      have HI : Hid (z = maxL l z0) := by
        show _ = _
        rw [← hinv.out, ← HLEN.out, List.drop_length]; rfl
      go_wp2
      go_ret
      exact ⟨ret_int HI.out, rfl⟩
end Go.Proofs.YtoaglkjpjolacaaGreatDoor.E
namespace Go.Proofs.YtoaglkjpjolacaaGreatDoor.E
open Go.RowKit
theorem oper_append_run {P : Program} {w w' : World} {v' : Value} {o : Oper} {a : Act} {K : Act → World → Prop} {Q : Exit → Act → World → Prop} (s x : Operand) (t u : TypeId)
    (ho : o.op = .call { callee := .builtin .append, args := #[s, x], argTypes := #[t, u] }) (vs vx : Value) (hs : a.eval s = vs) (hx : a.eval x = vx) (hrun : (Builtin.append_ #[t, u] o.type #[vs, vx]).run P w = .ok v' w')
    (h : K (a.put o.dst v') w') : o.wp P a w K Q := by
  unfold Oper.wp execOp
  simp only [ho, resolve, invoke, builtin, Sem.run_bind, Sem.run_pure, Result.andThen_ok, List.map_toArray, List.map_cons, List.map_nil, hs, hx, hrun]
  exact h
/-- append(out, x...). -/
theorem GrR.app {w : World} {base c : Nat} {A : Option Addr} {l : List St} (h : GrR w base A c l) (hA : A ≠ none) (A2 : Option Addr) (d : Nat) (x : List St) (h2 : RowR w w.heap.size A2 x) (hx : 0 < x.length) (ty : TypeId) (hb : l.length + x.length ≤ 10000000) (hbase : base ≤ w.heap.size) :
    ∃ A' c' w', (Builtin.append_ #[91, 91] ty #[.slice A l.length c, .slice A2 x.length d]).run Tryz.prog w = .ok (.slice A' (l.length + x.length) c') w' ∧ A' ≠ none ∧ GrR w' base A' c' (l ++ x) ∧ Below base w w' := by
  obtain ⟨i0, hi, hz0, hz1, hz2⟩ := info_parts info90
  obtain ⟨g, off, rfl, hgb, hc⟩ := h2 hx
  have hcell : ∀ j u, (cellsR x)[j]? = some u → w.cell? ((⟨g, off, none⟩ : Addr).add j) = some u := by
    intro j u hu
    have e : (⟨g, off, none⟩ : Addr).add j = ⟨g, off + j, none⟩ := by
      unfold Addr.add; split
      · rename_i h; subst h; rfl
      · rfl
    have hj : j < x.length * 2 := by have := (List.getElem?_eq_some_iff.1 hu).1; rwa [cellsR_length] at this
    rw [e]
    obtain ⟨q, hq⟩ : ∃ q, j = q * 2 ∨ j = q * 2 + 1 := ⟨j / 2, by omega⟩
    have hqx : q < x.length := by omega
    obtain ⟨k0, k1⟩ := hc q _ (List.getElem?_eq_getElem hqx)
    obtain ⟨m0, m1⟩ := cellsR_get x q _ (List.getElem?_eq_getElem hqx)
    rcases hq with rfl | rfl
    · rw [k0, ← m0, hu]
    · rw [← Nat.add_assoc, k1, ← m1, hu]
  obtain ⟨v', w', hrun, ho, hg, hn⟩ := run_append_own_wide (P := Tryz.prog) w base 91 ty 152 i0 (.agg #[.int .u64 0, .int .i64 0]) 2 16 Tryz.underlying91 hi hz0 hz1 hz2 rfl (by decide) _ _ _ h _ x.length d (cellsR x) (by rw [cellsR_length]) hcell (oneCell_cellsR x) (by unfold maxLen; omega) (by omega) hbase
  have hB : Below base w w' := (Below.refl _ w).grown hg hbase (fun k e => (h.own k e).1)
  have e2 : cellsR (l ++ x) = cellsR l ++ cellsR x := by simp [cellsR]
  have e3 : (l ++ x).length = l.length + x.length := by simp
  rcases ho.2 with ⟨e, h0⟩ | ⟨g', cap', cur', e, _⟩
  · have := (hn.1 e).1
    injection this with this _ _
    exact absurd this hA
  · rw [e] at hrun ho
    exact ⟨_, _, w', hrun, by simp, by unfold GrR; rw [e2, e3]; exact ho, hB⟩
theorem make_steps (L : Nat) (hL : L ≤ 10000000) (w : World) : ∃ W, (Instr.makeSlice 91 (.int .i64 0) (.int .i64 (L : Int))).run Tryz.prog w = .ok (.slice (some ⟨w.heap.size, 0, none⟩) 0 L) W ∧ GrR W w.heap.size (some ⟨w.heap.size, 0, none⟩) L [] ∧ Below w.heap.size w W ∧ W.heap.size = w.heap.size + 1 := by
  obtain ⟨i0, hi, hz0, hz1, hz2⟩ := info_parts info90
  have h := run_make (P := Tryz.prog) w 91 152 i0 (.agg #[.int .u64 0, .int .i64 0]) Tryz.underlying91 hi hz0 .i64 .i64 0 (L : Int) (by omega) (by omega) (by rw [hz2]; omega) (by omega)
  refine ⟨_, h.trans (by rw [show ((L : Int)).toNat = L by omega]; rfl), ?_, (Below.refl _ w).alloc (Nat.le_refl _) _, by simp⟩
  refine ⟨by simp [cellsR], .inr ⟨w.heap.size, L, _, rfl, Nat.le_refl _, heap_alloc_new w _, Nat.zero_le _, by unfold maxLen; omega, ?_, by simp [cellsR]⟩⟩
  rw [size_madeCells, hz1]
theorem GrR.mono {w : World} {base base' c : Nat} {A : Option Addr} {l : List St} (h : GrR w base A c l) (hb : base' ≤ base) : GrR w base' A c l := by
  refine ⟨h.1, ?_⟩
  rcases h.2 with ⟨e, h0⟩ | ⟨g, cap, cur, e, hb', hc, h1⟩
  · exact .inl ⟨e, h0⟩
  · exact .inr ⟨g, cap, cur, e, by omega, hc, h1⟩
theorem row_one (w : World) (r : St) : RowR (w.alloc (.cells #[.int .u64 (r.1 : Int), .int .i64 r.2] 152)) (w.alloc (.cells #[.int .u64 (r.1 : Int), .int .i64 r.2] 152)).heap.size (some ⟨w.heap.size, 0, none⟩) [r] := by
  intro _
  refine ⟨w.heap.size, 0, rfl, by simp, fun j q hq => ?_⟩
  match j, hq with
  | 0, hq =>
    simp at hq
    subst hq
    exact ⟨by simp [go_sem], by simp [go_sem]⟩
  | j + 1, hq => simp at hq

set_option maxRecDepth 100000 in
set_option maxHeartbeats 3200000 in
theorem ahead_any (A : Option Addr) (c : Nat) (l : List St) (c0 : St) (a : Nat) (w : World) (hr : RowR w w.heap.size A l) (hl : l.length ≤ 2000000) (h0 : l[0]? = some c0) :
    Calls Tryz.prog 137 #[.slice A l.length c, .int .u64 (a : Int)] w fun e w' => ∃ A' c', e = .returned (.slice A' (l.length + 1) c') ∧ GrR w' w.heap.size A' c' ((a, c0.2) :: l) ∧ Below w.heap.size w w' := by
  have hp : 0 < l.length := (List.getElem?_eq_some_iff.1 h0).1
  have HR := Lib.hid hr
  obtain ⟨b, off, rfl, hb, hc⟩ := hr hp
  obtain ⟨p0, p1⟩ := hc 0 c0 h0
  simp only [Nat.zero_mul, Nat.add_zero] at p0 p1
  obtain ⟨z0, hz0⟩ : ∃ z, c0.2 = z := ⟨_, rfl⟩
  rw [hz0] at p1 ⊢
  have HF : Hid (∀ W, Below w.heap.size w W → W.cell? ⟨b, off + 1, none⟩ = some (.int .i64 z0)) := fun W hW => (hW.cell hb).trans p1
  have FIN : Hid (∀ (W : World) (m g : Nat), Below w.heap.size w W → GrR W w.heap.size (some ⟨m, 0, none⟩) (l.length + 1) [] → RowR W W.heap.size (some ⟨g, 0, none⟩) [(a, z0)] → ∃ A1 c1 W1 A2 c2 W2, (Builtin.append_ #[91, 91] 91 #[.slice (some ⟨m, 0, none⟩) 0 (l.length + 1), .slice (some ⟨g, 0, none⟩) 1 1]).run Tryz.prog W = .ok (.slice A1 1 c1) W1 ∧ (Builtin.append_ #[91, 91] 91 #[.slice A1 1 c1, .slice (some ⟨b, off, none⟩) l.length c]).run Tryz.prog W1 = .ok (.slice A2 (l.length + 1) c2) W2 ∧ Below w.heap.size w W1 ∧ GrR W2 w.heap.size A2 c2 ((a, z0) :: l) ∧ Below w.heap.size w W2) := by
    intro W m g hW hG hS
    obtain ⟨A1, c1, W1, e1, n1, g1, b1⟩ := hG.app (by simp) _ 1 [(a, z0)] hS (by simp) 91 (by simp) hW.size
    have hW1 := hW.trans b1
    obtain ⟨A2, c2, W2, e2, _, g2, b2⟩ := g1.app n1 _ c l (HR.out.up hW1) hp 91 (by simp; omega) hW1.size
    simp only [List.nil_append, List.length_cons, List.length_nil, Nat.zero_add, List.singleton_append] at e1 e2 g1 g2
    exact ⟨A1, c1, W1, A2, c2, W2, e1, by rw [e2, Nat.add_comm], hW1, g2, hW1.trans b2⟩
  have hlw : IntKind.i64.wrap ((l.length : Int) + 1) = (l.length : Int) + 1 := wrap_id (by omega) (by omega)
  have HLEN : Hid ((l.length : Int) + 1 = ((l.length + 1 : Nat) : Int)) := by show _ = _; omega
  have HMK : Hid (∀ W, ∃ W', (Instr.makeSlice 91 (.int .i64 0) (.int .i64 ((l.length : Int) + 1))).run Tryz.prog W = .ok (.slice (some ⟨W.heap.size, 0, none⟩) 0 (l.length + 1)) W' ∧ GrR W' W.heap.size (some ⟨W.heap.size, 0, none⟩) (l.length + 1) [] ∧ Below W.heap.size W W' ∧ W'.heap.size = W.heap.size + 1) := fun W => by rw [HLEN.out]; exact make_steps (l.length + 1) (by omega) W
  have hXD : Below w.heap.size w w.drew := (Below.refl _ w).drew
  clear hc p0 p1 h0 hz0 HR
  go_enter Tryz.func137, Tryz.ntmps137
  go_wp2
  refine wp_region_held_drew (S := fun W => Below w.heap.size w W) (by kernel_rfl) hXD (fun hS => ?_)
  clear hXD
  generalize w.drew = wd at hS ⊢
  refine wpAnyH_take (i := 0) (v := ?_) rfl (by kernel_rfl) (by kernel_rfl) (by kernel_rfl) (fun _ _ _ h => h) (Yields.yieldsIf (Or.inl ⟨by kernel_rfl, ?_⟩)) hS ?_
  rotate_left
  · first | (intro w; go_simp; done) | (intro w; go_simp; with_reducible rfl)
  refine wpAnyH_take (i := 1) (v := ?_) rfl (by kernel_rfl) (by kernel_rfl) (by kernel_rfl) (fun _ _ _ h => h) (Yields.yieldsIf (Or.inl ⟨by kernel_rfl, ?_⟩)) hS ?_
  rotate_left
  · first | (intro w; go_simp; done) | (intro w; go_simp; with_reducible rfl)
  refine wpAnyH_take (i := 2) (v := ?_) rfl (by kernel_rfl) (by kernel_rfl) (by kernel_rfl) (fun _ _ _ h => h) (Yields.yieldsIf (Or.inl ⟨by kernel_rfl, ?_⟩)) hS ?_
  rotate_left
  · first | (intro w; go_simp; done) | (intro w; go_simp; with_reducible rfl)
  refine wpAnyH_take (i := 4) (v := ?_) rfl (by kernel_rfl) (by kernel_rfl) (by kernel_rfl) (fun _ _ _ h => h) (Yields.yieldsIf (Or.inl ⟨by kernel_rfl, ?_⟩)) hS ?_
  rotate_left
  · first | (intro w; go_simp; done) | (intro w; go_simp; with_reducible rfl)
  refine wpAnyH_take (i := 5) (v := ?_) rfl (by kernel_rfl) (by kernel_rfl) (by kernel_rfl) (fun _ _ _ h => h) (Yields.yieldsIf (Or.inl ⟨by kernel_rfl, ?_⟩)) hS ?_
  rotate_left
  · first | (intro w; go_simp; done) | (intro w; go_simp; with_reducible rfl)
  refine wpAnyH_take (i := 6) (v := ?_) rfl (by kernel_rfl) (by kernel_rfl) (by kernel_rfl) (fun _ _ _ h => h) (Yields.yieldsIf (Or.inl ⟨by kernel_rfl, ?_⟩)) hS ?_
  rotate_left
  · first | (intro w; go_simp; done) | (intro w; go_simp; with_reducible rfl)
  refine wpAnyH_take (i := 7) (v := ?_) rfl (by kernel_rfl) (by kernel_rfl) (by kernel_rfl) (fun _ _ _ h => h) (Yields.yieldsIf (Or.inl ⟨by kernel_rfl, ?_⟩)) hS ?_
  rotate_left
  · first | (intro w; go_simp; done) | (intro w; go_simp; with_reducible rfl)
  refine wpAnyH_take (i := 8) (v := ?_) rfl (by kernel_rfl) (by kernel_rfl) (by kernel_rfl) (fun _ _ _ h => h) (Or.inl ⟨by kernel_rfl, fun W hW => ?_⟩) hS ?_
  rotate_left
  · have f0 := HF.out W hW
    first | (go_simp; done) | (go_simp; with_reducible rfl)
  refine wpAnyH_take (i := 9) (v := ?_) rfl (by kernel_rfl) (by kernel_rfl) (by kernel_rfl) (fun _ _ _ h => h) (Yields.yieldsIf (Or.inl ⟨by kernel_rfl, ?_⟩)) hS ?_
  rotate_left
  · first | (intro w; go_simp; done) | (intro w; go_simp; with_reducible rfl)
  refine wpAnyH_all (rs := [3, 10]) (by kernel_rfl) (by simp) (fun i hi => ?_)
  obtain rfl | rfl : i = 3 ∨ i = 10 := by simpa using hi
  · obtain ⟨W1, hmk, hg1, hb1, hs1⟩ := HMK.out wd
    have hS3 : Below w.heap.size w W1 := hS.trans (hb1.mono hS.size)
    have HG1 : Hid (GrR W1 w.heap.size (some ⟨wd.heap.size, 0, none⟩) (l.length + 1) []) := hg1.mono hS.size
    clear hg1 hb1 hs1 hS HMK hi
    refine wpOp_step rfl (fun K hK => ?_)
    have HK := Lib.hid hK
    clear hK
    go_simp
    go_wp2
    refine HK.out _ _ ⟨hS3, ?_⟩
    have hS := hS3
    clear HK K hS3 hmk
    have hbx : Below W1.heap.size W1 (W1.alloc (.cells #[.int .u64 (a : Int), .int .i64 z0] 152)) := (Below.refl _ W1).alloc (Nat.le_refl _) _
    have hS3 : Below w.heap.size w (W1.alloc (.cells #[.int .u64 (a : Int), .int .i64 z0] 152)) := hS.trans (hbx.mono hS.size)
    have HG2 : Hid (GrR (W1.alloc (.cells #[.int .u64 (a : Int), .int .i64 z0] 152)) w.heap.size (some ⟨wd.heap.size, 0, none⟩) (l.length + 1) []) := HG1.out.below hbx (Nat.le_refl _)
    have HRW : Hid (RowR (W1.alloc (.cells #[.int .u64 (a : Int), .int .i64 z0] 152)) (W1.alloc (.cells #[.int .u64 (a : Int), .int .i64 z0] 152)).heap.size (some ⟨W1.heap.size, 0, none⟩) [(a, z0)]) := row_one W1 (a, z0)
    clear hS HG1 hbx
    refine wpAnyH_ready (rs := [10]) (by kernel_rfl) (by simp) ?_
    refine AllReadyH.cons rfl (fun K hK => ?_) AllReadyH.nil
    go_simp
    refine hK.out _ _ hS3 (fun hS => ?_)
    clear hK K hS3
    obtain ⟨A1, c1, V1, A2, c2, V2, e1, e2, b1, g2, b2⟩ := FIN.out _ _ _ hS HG2.out HRW.out
    have E1 := Lib.hid e1
    have E2 := Lib.hid e2
    have B1 := Lib.hid b1
    have G2 := Lib.hid g2
    have B2 := Lib.hid b2
    clear e1 e2 b1 g2 b2 FIN HG2 HRW hS
    refine wpAnyH_ready (rs := [11]) (by kernel_rfl) (by simp) ?_
    refine AllReadyH.cons rfl (fun K hK => ?_) AllReadyH.nil
    refine oper_append_run _ _ _ _ rfl _ _ rfl rfl E1.out ?_
    clear E1
    go_simp
    refine hK.out _ _ B1.out (fun hS => ?_)
    clear hK K B1
    refine wpAnyH_take (i := 12) (v := ?_) rfl (by kernel_rfl) (by kernel_rfl) (by kernel_rfl) (fun _ _ _ h => h) (Yields.yieldsIf (Or.inl ⟨by kernel_rfl, ?_⟩)) hS ?_
    rotate_left
    · first | (intro w; go_simp; done) | (intro w; go_simp; with_reducible rfl)
    refine wpAnyH_done (by kernel_rfl) ?_ _
    go_wp2_with (at_builtin; refine wpList_append_run rfl _ _ _ _ rfl _ _ rfl rfl E2.out ?_; clear E2)
    go_ret
    exact ⟨A2, c2, rfl, G2.out, B2.out⟩
  · refine wpOp_step rfl (fun K hK => ?_)
    have HK := Lib.hid hK
    clear hK hi
    have hbx : Below wd.heap.size wd (wd.alloc (.cells #[.int .u64 (a : Int), .int .i64 z0] 152)) := (Below.refl _ wd).alloc (Nat.le_refl _) _
    have hS3 : Below w.heap.size w (wd.alloc (.cells #[.int .u64 (a : Int), .int .i64 z0] 152)) := hS.trans (hbx.mono hS.size)
    have HRW1 : Hid (RowR (wd.alloc (.cells #[.int .u64 (a : Int), .int .i64 z0] 152)) (wd.alloc (.cells #[.int .u64 (a : Int), .int .i64 z0] 152)).heap.size (some ⟨wd.heap.size, 0, none⟩) [(a, z0)]) := row_one wd (a, z0)
    clear hS hbx
    go_simp
    refine HK.out _ _ ⟨hS3, ?_⟩
    have hS := hS3
    clear HK K hS3
    obtain ⟨W1, hmk, hg1, hb1, hs1⟩ := HMK.out (wd.alloc (.cells #[.int .u64 (a : Int), .int .i64 z0] 152))
    rw [World.size_alloc] at hmk hg1
    have hS3 : Below w.heap.size w W1 := hS.trans (hb1.mono hS.size)
    have HG2 : Hid (GrR W1 w.heap.size (some ⟨wd.heap.size + 1, 0, none⟩) (l.length + 1) []) := hg1.mono (by have := hS.size; simp at this; omega)
    have HRW : Hid (RowR W1 W1.heap.size (some ⟨wd.heap.size, 0, none⟩) [(a, z0)]) := HRW1.out.up hb1
    clear hg1 hb1 hs1 hS HMK HRW1
    refine wpAnyH_ready (rs := [3]) (by kernel_rfl) (by simp) ?_
    refine AllReadyH.cons rfl (fun K hK => ?_) AllReadyH.nil
    go_simp
    go_wp2
    refine hK.out _ _ hS3 (fun hS => ?_)
    clear hK K hS3 hmk
    obtain ⟨A1, c1, V1, A2, c2, V2, e1, e2, b1, g2, b2⟩ := FIN.out _ _ _ hS HG2.out HRW.out
    have E1 := Lib.hid e1
    have E2 := Lib.hid e2
    have B1 := Lib.hid b1
    have G2 := Lib.hid g2
    have B2 := Lib.hid b2
    clear e1 e2 b1 g2 b2 FIN HG2 HRW hS
    refine wpAnyH_ready (rs := [11]) (by kernel_rfl) (by simp) ?_
    refine AllReadyH.cons rfl (fun K hK => ?_) AllReadyH.nil
    refine oper_append_run _ _ _ _ rfl _ _ rfl rfl E1.out ?_
    clear E1
    go_simp
    refine hK.out _ _ B1.out (fun hS => ?_)
    clear hK K B1
    refine wpAnyH_take (i := 12) (v := ?_) rfl (by kernel_rfl) (by kernel_rfl) (by kernel_rfl) (fun _ _ _ h => h) (Yields.yieldsIf (Or.inl ⟨by kernel_rfl, ?_⟩)) hS ?_
    rotate_left
    · first | (intro w; go_simp; done) | (intro w; go_simp; with_reducible rfl)
    refine wpAnyH_done (by kernel_rfl) ?_ _
    go_wp2_with (at_builtin; refine wpList_append_run rfl _ _ _ _ rfl _ _ rfl rfl E2.out ?_; clear E2)
    go_ret
    exact ⟨A2, c2, rfl, G2.out, B2.out⟩
end Go.Proofs.YtoaglkjpjolacaaGreatDoor.E
