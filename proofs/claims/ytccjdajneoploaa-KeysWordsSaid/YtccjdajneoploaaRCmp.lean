/-
  The reference's Compare and Same.
-/
import Derived.Test.YtccjdajneoploaaCmp
namespace Go.Proofs.Ytccjdajneoploaa
open Go.RowKit

theorem below_drewN {B : Nat} {w w' : World} (h : Below B w w') (n : Nat) : Below B w (w'.drewN n) := ⟨h.1, h.2, h.3, h.4, h.5⟩

theorem RowP.facts {w : World} {b off : Nat} {l : List Part} {j : Nat} {p : Part} (h : RowP w w.heap.size (some ⟨b, off, none⟩) l) (hp : l[j]? = some p) :
    Hid (∀ W, Below w.heap.size w W → W.cell? ⟨b, off + j * 3, none⟩ = some (.bool p.t) ∧ W.cell? ⟨b, off + j * 3 + 1, none⟩ = some (.int .u64 (p.n : Int)) ∧ W.cell? ⟨b, off + j * 3 + 2, none⟩ = some (.string p.s)) := fun W hW => by
  have hj := (List.getElem?_eq_some_iff.1 hp).1
  obtain ⟨_, _, e, hb, hc⟩ := h.2 (by omega)
  injection e with e; injection e with e1 e2; subst e1; subst e2
  obtain ⟨g0, g1, g2⟩ := hc j p hp
  exact ⟨(hW.cell hb).trans g0, (hW.cell hb).trans g1, (hW.cell hb).trans g2⟩

set_option maxRecDepth 100000 in
set_option maxHeartbeats 3200000 in
theorem rcompare_any (A : Option Addr) (c : Nat) (l : List Part) (B : Option Addr) (d : Nat) (m : List Part) (w : World) (hr : RowP w w.heap.size A l) (hl : l.length ≤ 140737488351232) (hr2 : RowP w w.heap.size B m) (_hl2 : m.length ≤ 140737488351232) :
    Calls Try.prog 18 #[.slice A l.length c, .slice B m.length d] w fun e w' => e = .returned (.int .i64 (M.cmpL l m)) ∧ Below w.heap.size w w' := by
  have HR := Lib.hid hr; clear hr
  have HR2 := Lib.hid hr2; clear hr2
  obtain ⟨z, hz⟩ : ∃ z, min l.length m.length = z := ⟨_, rfl⟩
  have HZ := Lib.hid hz
  have hz1 : z ≤ l.length := by omega
  have hz2 : z ≤ m.length := by omega
  clear hz
  go_enter Try.func18, Try.ntmps18
  go_wp2
  go_loopg [5] z (fun k i wr => ∃ (j : Nat), j ≤ z ∧ k = z - j ∧ i = .int .i64 j ∧ Hid (M.cmpL (l.drop j) (m.drop j) = M.cmpL l m) ∧ Hid (Below w.heap.size w wr))
  case atStart => exact ⟨0, by omega, by omega, rfl, by show _ = _; simp, Below.refl _ _⟩
  case round =>
    obtain ⟨j, hj, hgk, rfl, hs, hB⟩ := hrel
    have HG := Lib.hid hgk; clear hgk
    by_cases hlt : j < z
    · obtain ⟨p, b, off, hp, rfl, hb, hn, _⟩ := HR.out.part j (by omega)
      obtain ⟨q, b2, off2, hq, rfl, hb2, hn2, _⟩ := HR2.out.part j (by omega)
      have F1 := HR.out.facts hp
      have F2 := HR2.out.facts hq
      have HN := Lib.hid (M.cmpL_next hp hq)
      clear hp hq
      obtain ⟨v, hv⟩ : ∃ v, M.cmpP p q = v := ⟨_, rfl⟩
      have HV := Lib.hid hv
      have hcall := less_any p q
      have hcall2 := less_any q p
      rw [M.cmpP_swap p q] at hcall2
      rw [hv] at hcall hcall2
      clear hv
      have hj1 : j < l.length := by omega
      have hj2 : j < m.length := by omega
      go_wp2
      refine wp_region_held_drew (S := fun W => Below w.heap.size w W) (by kernel_rfl) (hB.out.drew) (fun hS => ?_)
      refine wpAnyH_take (i := 0) (v := ?_) rfl (by kernel_rfl) (by kernel_rfl) (by kernel_rfl) (fun _ _ _ h => h) (Yields.yieldsIf (Or.inl ⟨by kernel_rfl, ?_⟩)) hS ?_
      rotate_left
      · first | (intro w; go_simp; done) | (intro w; go_simp; with_reducible rfl)
      refine wpAnyH_take (i := 1) (v := ?_) rfl (by kernel_rfl) (by kernel_rfl) (by kernel_rfl) (fun _ _ _ h => h) (Yields.yieldsIf (Or.inl ⟨by kernel_rfl, ?_⟩)) hS ?_
      rotate_left
      · first | (intro w; go_simp; done) | (intro w; go_simp; with_reducible rfl)
      refine wpAnyH_take (i := 2) (v := ?_) rfl (by kernel_rfl) (by kernel_rfl) (by kernel_rfl) (fun _ _ _ h => h) (Yields.yieldsIf (Or.inl ⟨by kernel_rfl, ?_⟩)) hS ?_
      rotate_left
      · first | (intro w; go_simp; done) | (intro w; go_simp; with_reducible rfl)
      refine wpAnyH_take (i := 3) (v := ?_) rfl (by kernel_rfl) (by kernel_rfl) (by kernel_rfl) (fun _ _ _ h => h) (Or.inl ⟨by kernel_rfl, fun W hW => ?_⟩) hS ?_
      rotate_left
      · obtain ⟨f0, f1, f2⟩ := F1.out W hW
        first | (go_simp; done) | (go_simp; with_reducible rfl)
      refine wpAnyH_take (i := 4) (v := ?_) rfl (by kernel_rfl) (by kernel_rfl) (by kernel_rfl) (fun _ _ _ h => h) (Yields.yieldsIf (Or.inl ⟨by kernel_rfl, ?_⟩)) hS ?_
      rotate_left
      · first | (intro w; go_simp; done) | (intro w; go_simp; with_reducible rfl)
      refine wpAnyH_take (i := 5) (v := ?_) rfl (by kernel_rfl) (by kernel_rfl) (by kernel_rfl) (fun _ _ _ h => h) (Yields.yieldsIf (Or.inl ⟨by kernel_rfl, ?_⟩)) hS ?_
      rotate_left
      · first | (intro w; go_simp; done) | (intro w; go_simp; with_reducible rfl)
      refine wpAnyH_take (i := 6) (v := ?_) rfl (by kernel_rfl) (by kernel_rfl) (by kernel_rfl) (fun _ _ _ h => h) (Yields.yieldsIf (Or.inl ⟨by kernel_rfl, ?_⟩)) hS ?_
      rotate_left
      · first | (intro w; go_simp; done) | (intro w; go_simp; with_reducible rfl)
      refine wpAnyH_take (i := 7) (v := ?_) rfl (by kernel_rfl) (by kernel_rfl) (by kernel_rfl) (fun _ _ _ h => h) (Or.inl ⟨by kernel_rfl, fun W hW => ?_⟩) hS ?_
      rotate_left
      · obtain ⟨f0, f1, f2⟩ := F2.out W hW
        first | (go_simp; done) | (go_simp; with_reducible rfl)
      refine wpAnyH_ready (rs := [8]) (by kernel_rfl) (by simp) ?_
      refine AllReadyH.cons rfl (fun K hK => ?_) AllReadyH.nil
      go_simp
      go_wp2_with (go_at_call 29; refine (hcall _).mono ?_; rintro e w2 ⟨rfl, hbb⟩)
      have hS3 : Below w.heap.size w w2 := hS.trans (hbb.mono hS.size)
      clear hbb
      refine hK.out _ _ hS3 (fun hS => ?_)
      clear hK K hS3
      refine wpAnyH_take (i := 9) (v := ?_) rfl (by kernel_rfl) (by kernel_rfl) (by kernel_rfl) (fun _ _ _ h => h) (Yields.yieldsIf (Or.inl ⟨by kernel_rfl, ?_⟩)) hS ?_
      rotate_left
      · first | (intro w; go_simp; done) | (intro w; go_simp; with_reducible rfl)
      refine wpAnyH_done (by kernel_rfl) ?_ _
      have HB2 : Hid (Below w.heap.size w w2) := hS
      clear hS
      go_wp2
      refine wp_region_held_drew (S := fun W => Below w.heap.size w W) (by kernel_rfl) (HB2.out.drew) (fun hS => ?_)
      refine wpAnyH_take (i := 0) (v := ?_) rfl (by kernel_rfl) (by kernel_rfl) (by kernel_rfl) (fun _ _ _ h => h) (Yields.yieldsIf (Or.inl ⟨by kernel_rfl, ?_⟩)) hS ?_
      rotate_left
      · first | (intro w; go_simp; done) | (intro w; go_simp; with_reducible rfl)
      refine wpAnyH_take (i := 1) (v := ?_) rfl (by kernel_rfl) (by kernel_rfl) (by kernel_rfl) (fun _ _ _ h => h) (Yields.yieldsIf (Or.inl ⟨by kernel_rfl, ?_⟩)) hS ?_
      rotate_left
      · first | (intro w; go_simp; done) | (intro w; go_simp; with_reducible rfl)
      refine wpAnyH_take (i := 2) (v := ?_) rfl (by kernel_rfl) (by kernel_rfl) (by kernel_rfl) (fun _ _ _ h => h) (Yields.yieldsIf (Or.inl ⟨by kernel_rfl, ?_⟩)) hS ?_
      rotate_left
      · first | (intro w; go_simp; done) | (intro w; go_simp; with_reducible rfl)
      refine wpAnyH_take (i := 3) (v := ?_) rfl (by kernel_rfl) (by kernel_rfl) (by kernel_rfl) (fun _ _ _ h => h) (Or.inl ⟨by kernel_rfl, fun W hW => ?_⟩) hS ?_
      rotate_left
      · obtain ⟨f0, f1, f2⟩ := F2.out W hW
        first | (go_simp; done) | (go_simp; with_reducible rfl)
      refine wpAnyH_take (i := 4) (v := ?_) rfl (by kernel_rfl) (by kernel_rfl) (by kernel_rfl) (fun _ _ _ h => h) (Yields.yieldsIf (Or.inl ⟨by kernel_rfl, ?_⟩)) hS ?_
      rotate_left
      · first | (intro w; go_simp; done) | (intro w; go_simp; with_reducible rfl)
      refine wpAnyH_take (i := 5) (v := ?_) rfl (by kernel_rfl) (by kernel_rfl) (by kernel_rfl) (fun _ _ _ h => h) (Yields.yieldsIf (Or.inl ⟨by kernel_rfl, ?_⟩)) hS ?_
      rotate_left
      · first | (intro w; go_simp; done) | (intro w; go_simp; with_reducible rfl)
      refine wpAnyH_take (i := 6) (v := ?_) rfl (by kernel_rfl) (by kernel_rfl) (by kernel_rfl) (fun _ _ _ h => h) (Yields.yieldsIf (Or.inl ⟨by kernel_rfl, ?_⟩)) hS ?_
      rotate_left
      · first | (intro w; go_simp; done) | (intro w; go_simp; with_reducible rfl)
      refine wpAnyH_take (i := 7) (v := ?_) rfl (by kernel_rfl) (by kernel_rfl) (by kernel_rfl) (fun _ _ _ h => h) (Or.inl ⟨by kernel_rfl, fun W hW => ?_⟩) hS ?_
      rotate_left
      · obtain ⟨f0, f1, f2⟩ := F1.out W hW
        first | (go_simp; done) | (go_simp; with_reducible rfl)
      refine wpAnyH_ready (rs := [8]) (by kernel_rfl) (by simp) ?_
      refine AllReadyH.cons rfl (fun K hK => ?_) AllReadyH.nil
      go_simp
      go_wp2_with (go_at_call 29; refine (hcall2 _).mono ?_; rintro e w3 ⟨rfl, hbb⟩)
      have hS3 : Below w.heap.size w w3 := hS.trans (hbb.mono hS.size)
      clear hbb
      refine hK.out _ _ hS3 (fun hS => ?_)
      clear hK K hS3
      refine wpAnyH_take (i := 9) (v := ?_) rfl (by kernel_rfl) (by kernel_rfl) (by kernel_rfl) (fun _ _ _ h => h) (Yields.yieldsIf (Or.inl ⟨by kernel_rfl, ?_⟩)) hS ?_
      rotate_left
      · first | (intro w; go_simp; done) | (intro w; go_simp; with_reducible rfl)
      refine wpAnyH_done (by kernel_rfl) ?_ _
      have HB3 : Hid (Below w.heap.size w w3) := hS
      clear hS hcall hcall2
      rcases (show v = -1 ∨ v = 0 ∨ v = 1 by rw [← HV.out]; exact M.cmpP_is p q) with h | h | h
      · subst h
        simp only [Int.reduceNeg, Int.reduceLT, decide_true, decide_false]
        go_wp2
        go_ret
        refine ⟨ret_int ?_, HB3.out⟩
        rw [← hs.out, HN.out, HV.out]; rfl
      · subst h
        simp only [Int.lt_irrefl, decide_false]
        go_wp2
        go_roundg (z - (j + 1))
        case measure => have := HG.out; omega
        case rel =>
          refine ⟨j + 1, by omega, rfl, by go_num, ?_, HB3⟩
          show _ = _
          rw [← hs.out, HN.out, HV.out, if_pos rfl]
      · subst h
        simp only [Int.reduceLT, decide_true, decide_false]
        go_wp2
        go_ret
        refine ⟨ret_int ?_, HB3.out⟩
        rw [← hs.out, HN.out, HV.out]; rfl
    · obtain rfl : j = z := by omega
      have HF : Hid (M.cmpN l.length m.length = M.cmpL l m) := by show _ = _; rw [← hs.out]; exact (M.cmpL_last l m j HZ.out.symm).symm
      have HZ2 := HZ.out
      rcases Nat.lt_trichotomy l.length m.length with h | h | h
      · obtain rfl : j = l.length := by omega
        have HH : Hid (M.cmpN l.length m.length = -1) := by show _ = _; simp [M.cmpN, h]
        clear HZ2
        go_wp2
        go_ret
        exact ⟨ret_int (by rw [← HF.out, HH.out]), hB.out⟩
      · obtain rfl : j = l.length := by omega
        have HH : Hid (M.cmpN l.length m.length = 0) := by show _ = _; simp [M.cmpN, h]
        have h1 : ¬ l.length < m.length := by omega
        have h2 : ¬ m.length < l.length := by omega
        have HE := Lib.hid h
        clear HZ2 h
        go_wp2
        go_ret
        exact ⟨ret_int (by rw [← HF.out, HH.out]), hB.out⟩
      · obtain rfl : j = m.length := by omega
        have HH : Hid (M.cmpN l.length m.length = 1) := by show _ = _; simp [M.cmpN, h]; omega
        have h1 : ¬ l.length < m.length := by omega
        clear HZ2
        go_wp2
        go_ret
        exact ⟨ret_int (by rw [← HF.out, HH.out]), hB.out⟩

set_option maxRecDepth 100000 in
set_option maxHeartbeats 1600000 in
theorem same_any (A : Option Addr) (c : Nat) (l : List Part) (B : Option Addr) (d : Nat) (w : World) (hr : RowP w w.heap.size A l) (hl : l.length ≤ 140737488351232) (hr2 : RowP w w.heap.size B l) :
    Calls Try.prog 16 #[.slice A l.length c, .slice B l.length d] w fun e w' => e = .returned (.bool true) ∧ Below w.heap.size w w' := by
  have HR := Lib.hid hr; clear hr
  have HR2 := Lib.hid hr2; clear hr2
  go_enter Try.func16, Try.ntmps16
  go_wp2
  go_loopg [5] l.length (fun k i wr => ∃ (j : Nat), j ≤ l.length ∧ k = l.length - j ∧ i = .int .i64 j ∧ Hid (Below w.heap.size w wr))
  case atStart => exact ⟨0, by omega, by omega, rfl, Below.refl _ _⟩
  case round =>
    obtain ⟨j, hj, hgk, rfl, hB⟩ := hrel
    have HG := Lib.hid hgk; clear hgk
    by_cases hlt : j < l.length
    · obtain ⟨p, b, off, hp, rfl, hb, hn, _⟩ := HR.out.part j (by omega)
      obtain ⟨q, b2, off2, hq, rfl, hb2, hn2, _⟩ := HR2.out.part j (by omega)
      obtain rfl : p = q := by rw [hp] at hq; injection hq
      obtain ⟨f0, f1, f2⟩ := (HR.out.facts hp).out wr hB.out
      obtain ⟨g0, g1, g2⟩ := (HR2.out.facts hp).out wr hB.out
      clear hp hq
      go_wp2
      go_quiet (fail)
      have HB2 : Hid (Below w.heap.size w (wr.drewN nq)) := below_drewN hB.out nq
      generalize wr.drewN nq = w2 at *
      go_wp2
      go_roundg (l.length - (j + 1))
      case measure => have := HG.out; omega
      case rel => exact ⟨j + 1, by omega, rfl, by go_num, HB2⟩
    · obtain rfl : j = l.length := by omega
      go_wp2
      go_ret
      exact ⟨rfl, hB.out⟩
end Go.Proofs.Ytccjdajneoploaa
