/-
  The reference's right and Right.
-/
import Derived.Test.YtflghlmikpfnpaaDoorETree
namespace Go.Proofs.YtflghlmikpfnpaaDoor.E
open Go.RowKit

set_option maxRecDepth 100000 in
set_option maxHeartbeats 3200000 in
theorem rright_any (d : Nat) : ∀ (n : Int) (ks : Fo) (A : Option Addr) (c : Nat) (l m : Int) (w : World), d ≤ 1000 → 0 ≤ l → l ≤ 1000000 → m ≤ 4611686018427387904 → Kd (Lt w.heap.size) w ks A →
    Calls Tryd.prog 44 #[tv n A ks.len c, .int .i64 d, .int .i64 l, .int .i64 m] w fun e w' => e = .returned (.int .i64 (rightT n ks d l m)) ∧ Below w.heap.size w w' := by
  induction d using Nat.strongRecOn with
  | _ d ih =>
  intro n ks A c l m w hd hl hl2 hm hk
  unfold tv
  have HB0 : Hid (Below w.heap.size w (w.alloc (.cells #[.int .i64 n, .slice A ks.len c] 24))) := (Below.refl _ w).alloc (Nat.le_refl _) _
  have HK := Lib.hid hk
  clear hk
  by_cases h0 : l - 1 < 0
  · have HR : Hid (rightT n ks d l m = -1) := if_pos (.inl h0)
    clear ih
    go_enter Tryd.func44, Tryd.ntmps44
    go_wp2
    go_ret
    exact ⟨ret_int HR.out.symm, HB0.out⟩
  by_cases hn1 : n < 0
  · have HR : Hid (rightT n ks d l m = -1) := if_pos (.inr (.inl hn1))
    clear ih
    go_enter Tryd.func44, Tryd.ntmps44
    go_wp2
    go_ret
    exact ⟨ret_int HR.out.symm, HB0.out⟩
  by_cases hn2 : m < n
  · have HR : Hid (rightT n ks d l m = -1) := if_pos (.inr (.inr (.inl hn2)))
    clear ih
    go_enter Tryd.func44, Tryd.ntmps44
    go_wp2
    go_ret
    exact ⟨ret_int HR.out.symm, HB0.out⟩
  by_cases hz : ks.len = 0
  · have HR : Hid (rightT n ks d l m = l - 1) := by
      show _ = _
      unfold rightT
      rw [if_neg (by unfold badN; omega)]
      cases ks with
      | nil => rfl
      | cons _ _ _ => simp [Fo.len] at hz
    obtain ⟨z, hze⟩ : ∃ z, ks.len = z := ⟨_, rfl⟩
    rw [hze] at hz HB0 ⊢
    subst hz
    clear ih hze
    go_enter Tryd.func44, Tryd.ntmps44
    go_wp2
    go_loopg [2, 9] 0 (fun k x i wr => k = 0 ∧ x = .int .i64 (l - 1) ∧ i = .int .i64 0 ∧ wr = w.alloc (.cells #[.int .i64 n, .slice A 0 c] 24))
    case atStart => exact ⟨rfl, rfl, rfl, rfl⟩
    case round =>
      obtain ⟨_, rfl, rfl, rfl⟩ := hrel
      go_wp2
      go_ret
      exact ⟨ret_int HR.out.symm, HB0.out⟩
  have hn0 : ((ks.len : Int) == 0) = false := beq_eq_false_iff_ne.2 (by omega)
  by_cases h2 : ks.len = 2
  · have h2b : ((ks.len : Int) == 2) = true := by rw [h2]; rfl
    by_cases hd0 : d = 0
    · have HR : Hid (rightT n ks d l m = -1) := if_pos (.inr (.inr (.inr ⟨hz, .inr hd0⟩)))
      subst hd0
      obtain ⟨z, hze⟩ : ∃ z, ks.len = z := ⟨_, rfl⟩
      rw [hze] at h2 h2b hn0 HB0 hz ⊢
      subst h2
      clear hze hn0 h2b ih
      go_enter Tryd.func44, Tryd.ntmps44
      go_wp2
      go_ret
      exact ⟨ret_int HR.out.symm, HB0.out⟩
    · have HR : Hid (rightT n ks d l m = rightK ks (d - 1) (l - 1) (m - n)) := if_neg (by unfold badN; omega)
      obtain ⟨b, off, rfl, hb, hf⟩ : ∃ b off, A = some ⟨b, off, none⟩ ∧ b < w.heap.size ∧ InF (Lt w.heap.size) w ks b off := by
        rcases HK.out with h | h
        · omega
        · exact h
      have hd0b : ((d : Int) == 0) = false := beq_eq_false_iff_ne.2 (by omega)
      have HF := Lib.hid hf
      rw [h2] at HB0 ⊢
      have HB := Lib.hid hb
      have hIH := Lib.hid fun o ks A c l w => ih (d - 1) (by omega) o ks A c l (m - n) w (by omega)
      simp only [show ((d - 1 : Nat) : Int) = (d : Int) - 1 by omega] at hIH
      have H2 := Lib.hid h2
      have HX := Lib.hid ((XS.begin w).boxed (.int .i64 n) (.slice (some ⟨b, off, none⟩) 2 c) 24)
      simp only [List.nil_append] at HX
      clear ih hz hf hb h2 hn0 h2b HB0
      go_enter Tryd.func44, Tryd.ntmps44
      go_wp2
      go_loopg [2, 9] 2 (fun k x i wr => ∃ (j : Nat) (fo : Fo) (z : Int), j ≤ 2 ∧ k = 2 - j ∧ x = .int .i64 z ∧ i = .int .i64 j ∧ Hid (fo.len + j = 2) ∧ Hid (InF (Lt w.heap.size) w fo b (off + j * 2)) ∧ Hid ((if z < 0 then z else rightK fo (d - 1) z (m - n)) = rightK ks (d - 1) (l - 1) (m - n)) ∧ z ≤ l - 1 ∧ -1 ≤ z ∧ Hid (XS w [(w.heap.size, 0, .int .i64 n), (w.heap.size, 1, .slice (some ⟨b, off, none⟩) 2 c)] [w.heap.size] wr))
      case atStart => exact ⟨0, ks, l - 1, by omega, rfl, rfl, rfl, H2.out, HF.out, by show _ = _; rw [if_neg (by omega)], by omega, by omega, HX.out⟩
      case round =>
        obtain ⟨j, fo, z, hj, hgk, rfl, rfl, hlen, hfo, hinv, hz1, hz2, hX⟩ := hrel
        have HGK := Lib.hid hgk; clear hgk HX
        have f := hX.out.at0
        simp only [List.mem_cons, List.not_mem_nil, or_false, forall_eq_or_imp, forall_eq] at f
        obtain ⟨p0, p1⟩ := f
        by_cases hlt : j < 2
        · by_cases hzn : z < 0
          · have hinv2 := hinv.out
            rw [if_pos hzn] at hinv2
            have HI := Lib.hid hinv2
            clear hinv2
            go_wp2
            go_ret
            exact ⟨ret_int (by rw [HR.out]; exact HI.out), hX.out.bel⟩
          · cases fo with
            | nil => have := hlen.out; simp [Fo.len] at this; omega
            | cons o2 k2 rest =>
              obtain ⟨⟨A2, c2, e1, e2, e3⟩, e4⟩ := hfo.out
              have hk2 : Kd (Lt w.heap.size) w k2 A2 := e3
              have HCALL : Hid (∀ W, Below w.heap.size w W → Calls Tryd.prog 44 #[.agg #[.int .i64 o2, .slice A2 k2.len c2], .int .i64 ((d : Int) - 1), .int .i64 z, .int .i64 (m - n)] W fun e w' => e = .returned (.int .i64 (rightT o2 k2 (d - 1) z (m - n))) ∧ Below W.heap.size W w') := fun W hW => hIH.out o2 k2 A2 c2 z W (by omega) (by omega) (by omega) (hk2.up hW)
              have HLE := Lib.hid (rightT_le o2 k2 (d - 1) z (m - n) (by omega))
              have HI : Hid ((if rightT o2 k2 (d - 1) z (m - n) < 0 then rightT o2 k2 (d - 1) z (m - n) else rightK rest (d - 1) (rightT o2 k2 (d - 1) z (m - n)) (m - n)) = rightK ks (d - 1) (l - 1) (m - n)) := by
                show _ = _
                rw [← rightK_cons, ← hinv.out, if_neg hzn]
              have HL2 : Hid (rest.len + (j + 1) = 2) := by show _ = _; have := hlen.out; simp [Fo.len] at this; omega
              have HF2 : Hid (InF (Lt w.heap.size) w rest b (off + (j + 1) * 2)) := by
                show InF _ _ _ _ _
                rw [show off + (j + 1) * 2 = off + j * 2 + 2 by omega]; exact e4
              obtain ⟨z2, hz2e⟩ : ∃ z2, rightT o2 k2 (d - 1) z (m - n) = z2 := ⟨_, rfl⟩
              rw [hz2e] at HCALL HLE HI
              have HFC : Hid (∀ W, XS w [(w.heap.size, 0, .int .i64 n), (w.heap.size, 1, .slice (some ⟨b, off, none⟩) 2 c)] [w.heap.size] W → W.cell? ⟨w.heap.size, 0, none⟩ = some (.int .i64 n) ∧ W.cell? ⟨w.heap.size, 1, none⟩ = some (.slice (some ⟨b, off, none⟩) 2 c) ∧ W.cell? ⟨b, off + j * 2, none⟩ = some (.int .i64 o2) ∧ W.cell? ⟨b, off + j * 2 + 1, none⟩ = some (.slice A2 k2.len c2)) := fun W hW =>
                ⟨hW.get (by simp), hW.get (by simp), (hW.bel.cell (p := ⟨b, off + j * 2, none⟩) HB.out).trans e1, (hW.bel.cell (p := ⟨b, off + j * 2 + 1, none⟩) HB.out).trans e2⟩
              have hXD := hX.out.drew
              have hw1 : IntKind.i64.wrap ((d : Int) - 1) = (d : Int) - 1 := wrap_id (by omega) (by omega)
              have hw2 : IntKind.i64.wrap (m - n) = m - n := wrap_id (by omega) (by omega)
              clear e1 e2 e3 e4 hk2 hz2e hIH
              go_wp2
              refine wp_region_held_drew (S := fun W => XS w [(w.heap.size, 0, .int .i64 n), (w.heap.size, 1, .slice (some ⟨b, off, none⟩) 2 c)] [w.heap.size] W) (by kernel_rfl) hXD (fun hS => ?_)
              clear hXD
              generalize wr.drew = wd at hS ⊢
              refine wpAnyH_take (i := 0) (v := ?_) rfl (by kernel_rfl) (by kernel_rfl) (by kernel_rfl) (fun _ _ _ h => h) (Yields.yieldsIf (Or.inl ⟨by kernel_rfl, ?_⟩)) hS ?_
              rotate_left
              · first | (intro w; go_simp; done) | (intro w; go_simp; with_reducible rfl)
              refine wpAnyH_take (i := 1) (v := ?_) rfl (by kernel_rfl) (by kernel_rfl) (by kernel_rfl) (fun _ _ _ h => h) (Or.inl ⟨by kernel_rfl, fun W hW => ?_⟩) hS ?_
              rotate_left
              · obtain ⟨f0, f1, f2, f3⟩ := HFC.out W hW
                first | (go_simp; done) | (go_simp; with_reducible rfl)
              refine wpAnyH_take (i := 2) (v := ?_) rfl (by kernel_rfl) (by kernel_rfl) (by kernel_rfl) (fun _ _ _ h => h) (Yields.yieldsIf (Or.inl ⟨by kernel_rfl, ?_⟩)) hS ?_
              rotate_left
              · first | (intro w; go_simp; done) | (intro w; go_simp; with_reducible rfl)
              refine wpAnyH_take (i := 3) (v := ?_) rfl (by kernel_rfl) (by kernel_rfl) (by kernel_rfl) (fun _ _ _ h => h) (Yields.yieldsIf (Or.inl ⟨by kernel_rfl, ?_⟩)) hS ?_
              rotate_left
              · first | (intro w; go_simp; done) | (intro w; go_simp; with_reducible rfl)
              refine wpAnyH_take (i := 4) (v := ?_) rfl (by kernel_rfl) (by kernel_rfl) (by kernel_rfl) (fun _ _ _ h => h) (Or.inl ⟨by kernel_rfl, fun W hW => ?_⟩) hS ?_
              rotate_left
              · obtain ⟨f0, f1, f2, f3⟩ := HFC.out W hW
                first | (go_simp; done) | (go_simp; with_reducible rfl)
              refine wpAnyH_take (i := 5) (v := ?_) rfl (by kernel_rfl) (by kernel_rfl) (by kernel_rfl) (fun _ _ _ h => h) (Yields.yieldsIf (Or.inl ⟨by kernel_rfl, ?_⟩)) hS ?_
              rotate_left
              · first | (intro w; go_simp; done) | (intro w; go_simp; with_reducible rfl)
              refine wpAnyH_take (i := 6) (v := ?_) rfl (by kernel_rfl) (by kernel_rfl) (by kernel_rfl) (fun _ _ _ h => h) (Yields.yieldsIf (Or.inl ⟨by kernel_rfl, ?_⟩)) hS ?_
              rotate_left
              · first | (intro w; go_simp; done) | (intro w; go_simp; with_reducible rfl)
              refine wpAnyH_take (i := 7) (v := ?_) rfl (by kernel_rfl) (by kernel_rfl) (by kernel_rfl) (fun _ _ _ h => h) (Yields.yieldsIf (Or.inl ⟨by kernel_rfl, ?_⟩)) hS ?_
              rotate_left
              · first | (intro w; go_simp; done) | (intro w; go_simp; with_reducible rfl)
              refine wpAnyH_take (i := 8) (v := ?_) rfl (by kernel_rfl) (by kernel_rfl) (by kernel_rfl) (fun _ _ _ h => h) (Yields.yieldsIf (Or.inl ⟨by kernel_rfl, ?_⟩)) hS ?_
              rotate_left
              · first | (intro w; go_simp; done) | (intro w; go_simp; with_reducible rfl)
              refine wpAnyH_take (i := 9) (v := ?_) rfl (by kernel_rfl) (by kernel_rfl) (by kernel_rfl) (fun _ _ _ h => h) (Yields.yieldsIf (Or.inl ⟨by kernel_rfl, ?_⟩)) hS ?_
              rotate_left
              · first | (intro w; go_simp; done) | (intro w; go_simp; with_reducible rfl)
              refine wpAnyH_take (i := 10) (v := ?_) rfl (by kernel_rfl) (by kernel_rfl) (by kernel_rfl) (fun _ _ _ h => h) (Or.inl ⟨by kernel_rfl, fun W hW => ?_⟩) hS ?_
              rotate_left
              · obtain ⟨f0, f1, f2, f3⟩ := HFC.out W hW
                first | (go_simp; done) | (go_simp; with_reducible rfl)
              refine wpAnyH_take (i := 11) (v := ?_) rfl (by kernel_rfl) (by kernel_rfl) (by kernel_rfl) (fun _ _ _ h => h) (Yields.yieldsIf (Or.inl ⟨by kernel_rfl, ?_⟩)) hS ?_
              rotate_left
              · first | (intro w; go_simp; done) | (intro w; go_simp; with_reducible rfl)
              refine wpAnyH_ready (rs := [12]) (by kernel_rfl) (by simp) ?_
              refine AllReadyH.cons rfl (fun K hK => ?_) AllReadyH.nil
              go_simp
              go_wp2_with (go_at_call 44; refine (HCALL.out _ hS.bel).mono ?_; rintro e w2 ⟨rfl, hb2⟩)
              have hS3 := hS.next hb2
              clear hb2 hS
              refine hK.out _ _ hS3 (fun hS => ?_)
              clear hK K hS3
              refine wpAnyH_take (i := 13) (v := ?_) rfl (by kernel_rfl) (by kernel_rfl) (by kernel_rfl) (fun _ _ _ h => h) (Yields.yieldsIf (Or.inl ⟨by kernel_rfl, ?_⟩)) hS ?_
              rotate_left
              · first | (intro w; go_simp; done) | (intro w; go_simp; with_reducible rfl)
              refine wpAnyH_done (by kernel_rfl) ?_ _
              have HX3 := Lib.hid hS
              have hz3 := HLE.out
              clear hS HCALL HFC
              go_wp2
              go_roundg (2 - (j + 1))
              case measure => have := HGK.out; omega
              case rel => exact ⟨j + 1, rest, z2, by omega, rfl, rfl, by go_num, HL2, HF2, HI, by omega, by omega, HX3⟩
        · obtain rfl : j = 2 := by omega
          have HI : Hid (z = rightK ks (d - 1) (l - 1) (m - n)) := by
            show _ = _
            have := hlen.out
            cases fo with
            | nil =>
              have h := hinv.out
              by_cases hz : z < 0
              · rwa [if_pos hz] at h
              · rw [if_neg hz] at h; exact h
            | cons _ _ _ => simp [Fo.len] at this
          clear hIH
          go_wp2
          go_ret
          exact ⟨ret_int (by rw [HR.out]; exact HI.out), hX.out.bel⟩
  · have HR : Hid (rightT n ks d l m = -1) := if_pos (.inr (.inr (.inr ⟨hz, .inl h2⟩)))
    have h2b : ((ks.len : Int) == 2) = false := beq_eq_false_iff_ne.2 (by omega)
    obtain ⟨z, hze⟩ : ∃ z, ks.len = z := ⟨_, rfl⟩
    rw [hze] at h2 h2b hn0 HB0 hz ⊢
    clear hze ih
    go_enter Tryd.func44, Tryd.ntmps44
    go_wp2
    go_ret
    exact ⟨ret_int HR.out.symm, HB0.out⟩

set_option maxRecDepth 100000 in
set_option maxHeartbeats 800000 in
theorem rRight_any (o : Int) (ks : Fo) (A : Option Addr) (c : Nat) (w : World) (hk : Kd (Lt w.heap.size) w ks A) :
    Calls Tryd.prog 17 #[tv o A ks.len c] w fun e w' => e = .returned (.bool (treeOf o ks).isSome) ∧ Below w.heap.size w w' := by
  have hb0 : Below w.heap.size w (w.alloc (.cells #[.int .i64 o, .slice A ks.len c] 24)) := (Below.refl _ w).alloc (Nat.le_refl _) _
  have hcall := rright_any 32 o ks A c 2047 4611686018427387904 (w.alloc (.cells #[.int .i64 o, .slice A ks.len c] 24)) (by omega) (by omega) (by omega) (by omega) (hk.up hb0)
  have HR := Lib.hid (rightT_full o ks)
  obtain ⟨z, hz⟩ : ∃ z, rightT o ks 32 2047 4611686018427387904 = z := ⟨_, rfl⟩
  rw [hz] at hcall
  rw [show mc = 4611686018427387904 from rfl, hz] at HR
  unfold tv at hcall ⊢
  have HB0 := Lib.hid hb0
  clear hb0 hz hk
  go_enter Tryd.func17, Tryd.ntmps17
  go_wp2_with fail
  refine hcall.mono ?_
  rintro e w1 ⟨rfl, hb1⟩
  go_wp2
  go_ret
  refine ⟨ret_bool ?_, HB0.out.trans (hb1.mono HB0.out.size)⟩
  have := HR.out
  rw [Bool.eq_iff_iff, decide_eq_true_iff, this]
theorem rright_arg {w : World} {T : Option Tr} {v : Value} (h : Arg w T v) : Calls Tryd.prog 17 #[v] w fun e w' => e = .returned (.bool T.isSome) ∧ Below w.heap.size w w' := by
  obtain ⟨o, ks, A, c, rfl, hk, rfl⟩ := h
  exact rRight_any o ks A c w hk
end Go.Proofs.YtflghlmikpfnpaaDoor.E
