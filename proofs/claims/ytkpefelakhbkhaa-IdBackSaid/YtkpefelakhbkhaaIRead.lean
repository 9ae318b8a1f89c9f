/-
  The reference's read.
-/
import Derived.Test.YtkpefelakhbkhaaIShow
namespace Go.Proofs.Ytkpefelakhbkhaa.I
open Go.RowKit

def byt (s : ByteArray) : List Nat := s.data.toList.map UInt8.toNat
theorem byt_length (s : ByteArray) : (byt s).length = s.size := by simp [byt]
theorem byt_at (s : ByteArray) (j : Nat) (h : j < s.size) : (byt s)[j]? = some (s[j]'h).toNat := by
  unfold byt
  rw [List.getElem?_map, Array.getElem?_toList, Array.getElem?_eq_getElem (show j < s.data.size from h)]
  rfl
theorem drop_at (s : ByteArray) (i : Nat) (h : i < s.size) : (byt s).drop i = (s[i]'h).toNat :: (byt s).drop (i + 1) := by
  have hl : i < (byt s).length := by rw [byt_length]; exact h
  have := byt_at s i h
  rw [List.getElem?_eq_getElem hl] at this
  injection this with this
  rw [List.drop_eq_getElem_cons hl, this]
/-- The tree whose text begins some bytes, and how many bytes it has; d - 1 is the depth that is left. -/
def rd : Nat → List Nat → Option (Tr × Nat)
  | 0, _ => none
  | _ + 1, [] => none
  | d + 1, x :: r => if x = 48 then some (.leaf false, 1) else if x = 49 then some (.leaf true, 1) else if x = 40 then
      (rd d r).bind fun a => match r.drop a.2 with
        | y :: r2 => if y = 44 then (rd d r2).bind fun b => match r2.drop b.2 with
            | z :: _ => if z = 41 then some (.node a.1 b.1, a.2 + b.2 + 3) else none
            | [] => none
          else none
        | [] => none
    else none
def Readt (s : ByteArray) (a d : Nat) (w : World) (e : Ending) (w' : World) : Prop :=
  ((∃ t m v, rd d ((byt s).drop a) = some (t, m) ∧ a + m ≤ s.size ∧ e = .returned (.tuple #[v, .int .i64 ((a + m : Nat) : Int)]) ∧ InT w' w'.heap.size t v) ∨ (rd d ((byt s).drop a) = none ∧ e = .returned (.tuple #[tv false none 0 0, .int .i64 (-1)]))) ∧ Below w.heap.size w w'

/-- What stands while read runs: its result's variable. -/
structure RB (w W : World) : Prop where
  box : Box0 W w.heap.size
  bel : Below w.heap.size w W
  big : w.heap.size < W.heap.size
theorem RB.next {w W W' : World} (h : RB w W) (hb : Below W.heap.size W W') : RB w W' := ⟨h.box.below hb h.big, h.bel.trans (hb.mono (by have := h.big; omega)), Nat.lt_of_lt_of_le h.big hb.size⟩
theorem RB.fin {w W : World} (h : RB w W) : ∀ u1 u2, Below w.heap.size w ((W.setCell ⟨w.heap.size, 0, none⟩ u1).setCell ⟨w.heap.size, 1, none⟩ u2) := fun _ _ => (h.bel.setCell (p := ⟨w.heap.size, 0, none⟩) (Nat.le_refl _) _).setCell (p := ⟨w.heap.size, 1, none⟩) (Nat.le_refl _) _
set_option maxRecDepth 100000 in
set_option maxHeartbeats 6400000 in
theorem read_any (s : ByteArray) (hs : s.size ≤ 140737488355328) (d : Nat) : ∀ (a : Nat) (w : World), d ≤ 1000 → a ≤ s.size → Calls Try.prog 52 #[.string s, .int .i64 (a : Int), .int .i64 ((d : Int) - 1)] w (Readt s a d w) := by
  induction d with
  | zero =>
    intro a w _ ha
    have HN : Hid (rd 0 ((byt s).drop a) = none) := rfl
    have hb0 : Below w.heap.size w (w.alloc (.cells #[.bool false, .slice none 0 0] 24)) := (Below.refl _ w).alloc (Nat.le_refl _) _
    simp only [Int.natCast_zero, Int.zero_sub]
    by_cases hlt : a < s.size
    · go_enter Try.func52, Try.ntmps52
      go_wp2
      refine bodyPost_ret (v := .tuple #[tv false none 0 0, .int .i64 (-1)]) (by simp [results, Try.f52, go_sem, tv]) rfl ?_
      exact ⟨.inr ⟨HN.out, rfl⟩, hb0⟩
    · go_enter Try.func52, Try.ntmps52
      go_wp2
      refine bodyPost_ret (v := .tuple #[tv false none 0 0, .int .i64 (-1)]) (by simp [results, Try.f52, go_sem, tv]) rfl ?_
      exact ⟨.inr ⟨HN.out, rfl⟩, hb0⟩
  | succ d ih =>
    intro a w hd ha
    have hb0 : Below w.heap.size w (w.alloc (.cells #[.bool false, .slice none 0 0] 24)) := (Below.refl _ w).alloc (Nat.le_refl _) _
    have HBX := Lib.hid (box_start w)
    have HB0 := Lib.hid hb0
    simp only [show ((d + 1 : Nat) : Int) - 1 = (d : Int) by omega]
    by_cases hlt : a < s.size
    · obtain ⟨x, hx⟩ : ∃ x, (s[a]'hlt).toNat = x := ⟨_, rfl⟩
      have HD : Hid ((byt s).drop a = x :: (byt s).drop (a + 1)) := by show _ = _; rw [drop_at s a hlt, hx]
      by_cases h48 : x = 48
      · subst h48
        have HY : Hid (rd (d + 1) ((byt s).drop a) = some (.leaf false, 1)) := by show _ = _; rw [HD.out]; simp [rd]
        clear ih hb0
        go_enter Try.func52, Try.ntmps52
        go_wp2_with fail
        refine (leaf_any _ _).mono ?_
        rintro e w3 ⟨rfl, hb3⟩
        have HBX3 := HBX.out.below hb3 (by simp)
        obtain ⟨⟨c0, c1'⟩, f0, f1⟩ := HBX3.facts
        have HFIN : Hid (∀ u1 u2, InT ((w3.setCell ⟨w.heap.size, 0, none⟩ u1).setCell ⟨w.heap.size, 1, none⟩ u2) ((w3.setCell ⟨w.heap.size, 0, none⟩ u1).setCell ⟨w.heap.size, 1, none⟩ u2).heap.size (.leaf false) (tv false none 0 0) ∧ Below w.heap.size w ((w3.setCell ⟨w.heap.size, 0, none⟩ u1).setCell ⟨w.heap.size, 1, none⟩ u2)) := fun u1 u2 => store_in HBX3 ⟨none, 0, rfl⟩ (HB0.out.trans (hb3.mono HB0.out.size)) (Nat.le_refl _)
        clear hb3 HBX3
        unfold tv
        go_wp2
        refine bodyPost_ret (v := .tuple #[tv false none 0 0, .int .i64 ((a : Int) + 1)]) (by simp [results, Try.f52, go_sem, tv, c0, c1']) rfl ?_
        exact ⟨.inl ⟨_, 1, _, HY.out, by omega, by simp, (HFIN.out _ _).1⟩, (HFIN.out _ _).2⟩
      · have h48b : ((x : Int) == 48) = false := beq_eq_false_iff_ne.2 (by omega)
        by_cases h49 : x = 49
        · subst h49
          have HY : Hid (rd (d + 1) ((byt s).drop a) = some (.leaf true, 1)) := by show _ = _; rw [HD.out]; simp [rd]
          clear ih hb0
          go_enter Try.func52, Try.ntmps52
          go_wp2_with fail
          refine (leaf_any _ _).mono ?_
          rintro e w3 ⟨rfl, hb3⟩
          have HBX3 := HBX.out.below hb3 (by simp)
          obtain ⟨⟨c0, c1'⟩, f0, f1⟩ := HBX3.facts
          have HFIN : Hid (∀ u1 u2, InT ((w3.setCell ⟨w.heap.size, 0, none⟩ u1).setCell ⟨w.heap.size, 1, none⟩ u2) ((w3.setCell ⟨w.heap.size, 0, none⟩ u1).setCell ⟨w.heap.size, 1, none⟩ u2).heap.size (.leaf true) (tv true none 0 0) ∧ Below w.heap.size w ((w3.setCell ⟨w.heap.size, 0, none⟩ u1).setCell ⟨w.heap.size, 1, none⟩ u2)) := fun u1 u2 => store_in HBX3 ⟨none, 0, rfl⟩ (HB0.out.trans (hb3.mono HB0.out.size)) (Nat.le_refl _)
          clear hb3 HBX3
          unfold tv
          go_wp2
          refine bodyPost_ret (v := .tuple #[tv true none 0 0, .int .i64 ((a : Int) + 1)]) (by simp [results, Try.f52, go_sem, tv, c0, c1']) rfl ?_
          exact ⟨.inl ⟨_, 1, _, HY.out, by omega, by simp, (HFIN.out _ _).1⟩, (HFIN.out _ _).2⟩
        · have h49b : ((x : Int) == 49) = false := beq_eq_false_iff_ne.2 (by omega)
          by_cases h40 : x = 40
          · subst h40
            have hc1 := ih (a + 1) (w.alloc (.cells #[.bool false, .slice none 0 0] 24)) (by omega) (by omega)
            rw [show ((a + 1 : Nat) : Int) = (a : Int) + 1 by omega] at hc1
            have HQ0 : Hid (RB w (w.alloc (.cells #[.bool false, .slice none 0 0] 24))) := ⟨HBX.out, HB0.out, by simp⟩
            have hih := fun a' W h => ih a' W (by omega) h
            clear ih hb0
            go_enter Try.func52, Try.ntmps52
            go_wp2_with fail
            refine hc1.mono ?_
            rintro e w3 ⟨(⟨t1, m1, v1, hr1, hle1, rfl, ht1⟩ | ⟨hr1, rfl⟩), hb3⟩
            · obtain ⟨o5, A5, n5, c5, rfl⟩ := ht1.form
              have hb3' : Below w3.heap.size w3 (w3.alloc (.cells #[.bool o5, .slice A5 n5 c5] 24)) := (Below.refl _ w3).alloc (Nat.le_refl _) _
              have HQ3 := Lib.hid ((HQ0.out.next hb3).next hb3')
              have HT1 := Lib.hid (ht1.up hb3')
              obtain ⟨P, hP⟩ : ∃ P, a + 1 + m1 = P := ⟨_, rfl⟩
              have HP : Hid (((byt s).drop (a + 1)).drop m1 = (byt s).drop P) := by show _ = _; rw [List.drop_drop, hP]
              rw [hP] at hle1 ⊢
              have HR1 := Lib.hid hr1
              have HPE := Lib.hid hP
              clear hb3 hb3' ht1 hr1 hc1 hP
              unfold tv
              by_cases hp : P < s.size
              · obtain ⟨y, hy⟩ : ∃ y, (s[P]'hp).toNat = y := ⟨_, rfl⟩
                have HDP : Hid ((byt s).drop P = y :: (byt s).drop (P + 1)) := by show _ = _; rw [drop_at s P hp, hy]
                by_cases h44 : y = 44
                · subst h44
                  have hc2 := hih (P + 1) (w3.alloc (.cells #[.bool o5, .slice A5 n5 c5] 24)) (by omega)
                  rw [show ((P + 1 : Nat) : Int) = (P : Int) + 1 by omega] at hc2
                  clear hih
                  go_wp2_with fail
                  refine hc2.mono ?_
                  rintro e w4 ⟨(⟨t2, m2, v2, hr2, hle2, rfl, ht2⟩ | ⟨hr2, rfl⟩), hb4⟩
                  · obtain ⟨o6, A6, n6, c6, rfl⟩ := ht2.form
                    have hb4' : Below w4.heap.size w4 (w4.alloc (.cells #[.bool o6, .slice A6 n6 c6] 24)) := (Below.refl _ w4).alloc (Nat.le_refl _) _
                    have HQ4 := Lib.hid ((HQ3.out.next hb4).next hb4')
                    have HT2 := Lib.hid (ht2.up hb4')
                    have HT1b := Lib.hid ((HT1.out.up hb4).up hb4')
                    have q0 : (w4.alloc (.cells #[.bool o6, .slice A6 n6 c6] 24)).cell? ⟨w3.heap.size, 0, none⟩ = some (.bool o5) := by
                      rw [hb4'.cell (p := ⟨w3.heap.size, 0, none⟩) (by have := hb4.size; simp at this; show w3.heap.size < _; omega), hb4.cell (p := ⟨w3.heap.size, 0, none⟩) (by simp)]; simp [go_sem]
                    have q1 : (w4.alloc (.cells #[.bool o6, .slice A6 n6 c6] 24)).cell? ⟨w3.heap.size, 1, none⟩ = some (.slice A5 n5 c5) := by
                      rw [hb4'.cell (p := ⟨w3.heap.size, 1, none⟩) (by have := hb4.size; simp at this; show w3.heap.size < _; omega), hb4.cell (p := ⟨w3.heap.size, 1, none⟩) (by simp)]; simp [go_sem]
                    obtain ⟨Q, hQ⟩ : ∃ Q, P + 1 + m2 = Q := ⟨_, rfl⟩
                    have HQD : Hid (((byt s).drop (P + 1)).drop m2 = (byt s).drop Q) := by show _ = _; rw [List.drop_drop, hQ]
                    rw [hQ] at hle2 ⊢
                    have HR2 := Lib.hid hr2
                    have HQE := Lib.hid hQ
                    clear hb4 hb4' ht2 hr2 hc2 hQ
                    unfold tv
                    by_cases hq : Q < s.size
                    · obtain ⟨z, hz⟩ : ∃ z, (s[Q]'hq).toNat = z := ⟨_, rfl⟩
                      have HDQ : Hid ((byt s).drop Q = z :: (byt s).drop (Q + 1)) := by show _ = _; rw [drop_at s Q hq, hz]
                      by_cases h41 : z = 41
                      · subst h41
                        have HY : Hid (rd (d + 1) ((byt s).drop a) = some (.node t1 t2, m1 + m2 + 3)) := by
                          show _ = _
                          rw [HD.out]
                          simp only [rd]
                          rw [if_neg (by decide), if_neg (by decide), if_pos trivial, HR1.out, Option.bind_some, HP.out, HDP.out]
                          simp only
                          rw [if_pos trivial, HR2.out, Option.bind_some, HQD.out, HDQ.out]
                          simp
                        obtain ⟨W5, hW5⟩ : ∃ W5, (w4.alloc (.cells #[.bool o6, .slice A6 n6 c6] 24)).alloc (.cells #[.bool o5, .slice A5 n5 c5, .bool o6, .slice A6 n6 c6] 24) = W5 := ⟨_, rfl⟩
                        have hb5 : Below (w4.alloc (.cells #[.bool o6, .slice A6 n6 c6] 24)).heap.size (w4.alloc (.cells #[.bool o6, .slice A6 n6 c6] 24)) W5 := by rw [← hW5]; exact (Below.refl _ _).alloc (Nat.le_refl _) _
                        have HQ5 := HQ4.out.next hb5
                        have hin5 : InT W5 W5.heap.size (.node t1 t2) (tv false (some ⟨w4.heap.size + 1, 0, none⟩) 2 2) := two_in hb5 (by rw [← hW5]; have := heap_alloc_new (w4.alloc (.cells #[.bool o6, .slice A6 n6 c6] 24)) (.cells #[.bool o5, .slice A5 n5 c5, .bool o6, .slice A6 n6 c6] 24); rwa [World.size_alloc] at this) HT1b.out HT2.out
                        obtain ⟨⟨c0, c1'⟩, f0, f1⟩ := HQ5.box.facts
                        have HFIN : Hid (∀ u1 u2, InT ((W5.setCell ⟨w.heap.size, 0, none⟩ u1).setCell ⟨w.heap.size, 1, none⟩ u2) ((W5.setCell ⟨w.heap.size, 0, none⟩ u1).setCell ⟨w.heap.size, 1, none⟩ u2).heap.size (.node t1 t2) (tv false (some ⟨w4.heap.size + 1, 0, none⟩) 2 2) ∧ Below w.heap.size w ((W5.setCell ⟨w.heap.size, 0, none⟩ u1).setCell ⟨w.heap.size, 1, none⟩ u2)) := fun u1 u2 => store_in HQ5.box hin5 HQ5.bel (Nat.le_refl _)
                        clear hb5 HQ5 hin5
                        subst hW5
                        go_wp2
                        refine bodyPost_ret (v := .tuple #[tv false (some ⟨w4.heap.size + 1, 0, none⟩) 2 2, .int .i64 ((Q : Int) + 1)]) (by simp [results, Try.f52, go_sem, tv, c0, c1']) rfl ?_
                        exact ⟨.inl ⟨_, m1 + m2 + 3, _, HY.out, by have := HPE.out; have := HQE.out; omega, by have := HPE.out; have := HQE.out; rw [show (Q : Int) + 1 = ((a + (m1 + m2 + 3) : Nat) : Int) by omega], (HFIN.out _ _).1⟩, (HFIN.out _ _).2⟩
                      · have h41b : ((z : Int) != 41) = true := by rw [bne_iff_ne]; omega
                        have HN : Hid (rd (d + 1) ((byt s).drop a) = none) := by
                          show _ = _
                          rw [HD.out]
                          simp only [rd]
                          rw [if_neg (by decide), if_neg (by decide), if_pos trivial, HR1.out, Option.bind_some, HP.out, HDP.out]
                          simp only
                          rw [if_pos trivial, HR2.out, Option.bind_some, HQD.out, HDQ.out]
                          simp [h41]
                        clear h41
                        obtain ⟨⟨c0, c1'⟩, f0, f1⟩ := HQ4.out.box.facts
                        have HFB := Lib.hid HQ4.out.fin
                        go_wp2
                        refine bodyPost_ret (v := .tuple #[tv false none 0 0, .int .i64 (-1)]) (by simp [results, Try.f52, go_sem, tv, c0, c1']) rfl ?_
                        exact ⟨.inr ⟨HN.out, rfl⟩, HFB.out _ _⟩
                    · have HN : Hid (rd (d + 1) ((byt s).drop a) = none) := by
                        show _ = _
                        rw [HD.out]
                        simp only [rd]
                        rw [if_neg (by decide), if_neg (by decide), if_pos trivial, HR1.out, Option.bind_some, HP.out, HDP.out]
                        simp only
                        rw [if_pos trivial, HR2.out, Option.bind_some, HQD.out, List.drop_eq_nil_of_le (by rw [byt_length]; omega)]
                      have hqs : s.size ≤ Q := by omega
                      obtain ⟨⟨c0, c1'⟩, f0, f1⟩ := HQ4.out.box.facts
                      have HFB := Lib.hid HQ4.out.fin
                      go_wp2
                      refine bodyPost_ret (v := .tuple #[tv false none 0 0, .int .i64 (-1)]) (by simp [results, Try.f52, go_sem, tv, c0, c1']) rfl ?_
                      exact ⟨.inr ⟨HN.out, rfl⟩, HFB.out _ _⟩
                  · have HN : Hid (rd (d + 1) ((byt s).drop a) = none) := by
                      show _ = _
                      rw [HD.out]
                      simp only [rd]
                      rw [if_neg (by decide), if_neg (by decide), if_pos trivial, HR1.out, Option.bind_some, HP.out, HDP.out]
                      simp only
                      rw [if_pos trivial, hr2]; rfl
                    have HQ4 := Lib.hid ((HQ3.out.next hb4).next ((Below.refl _ w4).alloc (Nat.le_refl _) (.cells #[.bool false, .slice none 0 0] 24)))
                    clear hb4 hr2 hc2
                    unfold tv
                    obtain ⟨⟨c0, c1'⟩, f0, f1⟩ := HQ4.out.box.facts
                    have HFB := Lib.hid HQ4.out.fin
                    go_wp2
                    refine bodyPost_ret (v := .tuple #[tv false none 0 0, .int .i64 (-1)]) (by simp [results, Try.f52, go_sem, tv, c0, c1']) rfl ?_
                    exact ⟨.inr ⟨HN.out, rfl⟩, HFB.out _ _⟩
                · have h44b : ((y : Int) != 44) = true := by rw [bne_iff_ne]; omega
                  have HN : Hid (rd (d + 1) ((byt s).drop a) = none) := by
                    show _ = _
                    rw [HD.out]
                    simp only [rd]
                    rw [if_neg (by decide), if_neg (by decide), if_pos trivial, HR1.out, Option.bind_some, HP.out, HDP.out]
                    simp [h44]
                  clear h44 hih
                  obtain ⟨⟨c0, c1'⟩, f0, f1⟩ := HQ3.out.box.facts
                  have HFB := Lib.hid HQ3.out.fin
                  go_wp2
                  refine bodyPost_ret (v := .tuple #[tv false none 0 0, .int .i64 (-1)]) (by simp [results, Try.f52, go_sem, tv, c0, c1']) rfl ?_
                  exact ⟨.inr ⟨HN.out, rfl⟩, HFB.out _ _⟩
              · have HN : Hid (rd (d + 1) ((byt s).drop a) = none) := by
                  show _ = _
                  rw [HD.out]
                  simp only [rd]
                  rw [if_neg (by decide), if_neg (by decide), if_pos trivial, HR1.out, Option.bind_some, HP.out, List.drop_eq_nil_of_le (by rw [byt_length]; omega)]
                have hps : s.size ≤ P := by omega
                clear hih
                obtain ⟨⟨c0, c1'⟩, f0, f1⟩ := HQ3.out.box.facts
                have HFB := Lib.hid HQ3.out.fin
                go_wp2
                refine bodyPost_ret (v := .tuple #[tv false none 0 0, .int .i64 (-1)]) (by simp [results, Try.f52, go_sem, tv, c0, c1']) rfl ?_
                exact ⟨.inr ⟨HN.out, rfl⟩, HFB.out _ _⟩
            · have HN : Hid (rd (d + 1) ((byt s).drop a) = none) := by
                show _ = _
                rw [HD.out]
                simp only [rd]
                rw [if_neg (by decide), if_neg (by decide), if_pos trivial, hr1]; rfl
              have HQ3 := Lib.hid ((HQ0.out.next hb3).next ((Below.refl _ w3).alloc (Nat.le_refl _) (.cells #[.bool false, .slice none 0 0] 24)))
              clear hb3 hr1 hc1 hih
              unfold tv
              obtain ⟨⟨c0, c1'⟩, f0, f1⟩ := HQ3.out.box.facts
              have HFB := Lib.hid HQ3.out.fin
              go_wp2
              refine bodyPost_ret (v := .tuple #[tv false none 0 0, .int .i64 (-1)]) (by simp [results, Try.f52, go_sem, tv, c0, c1']) rfl ?_
              exact ⟨.inr ⟨HN.out, rfl⟩, HFB.out _ _⟩
          · have h40b : ((x : Int) != 40) = true := by rw [bne_iff_ne]; omega
            have HN : Hid (rd (d + 1) ((byt s).drop a) = none) := by show _ = _; rw [HD.out]; simp [rd, h48, h49, h40]
            clear ih hb0 h48 h49 h40
            go_enter Try.func52, Try.ntmps52
            go_wp2
            refine bodyPost_ret (v := .tuple #[tv false none 0 0, .int .i64 (-1)]) (by simp [results, Try.f52, go_sem, tv]) rfl ?_
            exact ⟨.inr ⟨HN.out, rfl⟩, HB0.out⟩
    · have HN : Hid (rd (d + 1) ((byt s).drop a) = none) := by show _ = _; rw [List.drop_eq_nil_of_le (by rw [byt_length]; omega)]; rfl
      clear ih
      go_enter Try.func52, Try.ntmps52
      go_wp2
      refine bodyPost_ret (v := .tuple #[tv false none 0 0, .int .i64 (-1)]) (by simp [results, Try.f52, go_sem, tv]) rfl ?_
      exact ⟨.inr ⟨HN.out, rfl⟩, HB0.out⟩
end Go.Proofs.Ytkpefelakhbkhaa.I
