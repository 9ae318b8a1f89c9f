/-
  join: parts one after another in new memory.
-/
import Derived.Test.YtadcmljcbmfcaaaWCode
namespace Go.Proofs.Ytadcmljcbmfcaaa.Wi
open Go.RowKit

/-- What a call answers that makes a slice of bytes of its own. -/
def Owned (l : List Nat) (w : World) (e : Ending) (w' : World) : Prop :=
  ∃ g cap, e = .returned (.slice (some ⟨g, 0, none⟩) l.length cap) ∧ OwnB w' w.heap.size g cap l ∧ Below w.heap.size w w'
theorem Owned.made {l : List Nat} {w w' : World} {e : Ending} (h : Owned l w e w') (hl : ∀ x ∈ l, x < 256) : Made l w e w' := by
  obtain ⟨g, cap, he, ho, hb⟩ := h
  exact ⟨_, cap, he, ho.row hl ho.lt.2, hb⟩

abbrev Part := Option Addr × Nat × List Nat
def Part.val (p : Part) : Value := .slice p.1 p.2.2.length p.2.1
/-- A slice of slices of bytes. -/
def Parts (w : World) (B : Nat) (b off : Nat) (ps : List Part) : Prop :=
  b < B ∧ ∀ j p, ps[j]? = some p → w.cell? ⟨b, off + j, none⟩ = some p.val ∧ Row w B p.1 p.2.2
theorem Parts.below {w w' : World} {B b off : Nat} {ps : List Part} (h : Parts w B b off ps) (hb : Below B w w') : Parts w' B b off ps :=
  ⟨h.1, fun j p hp => ⟨(hb.cell h.1).trans (h.2 j p hp).1, (h.2 j p hp).2.below hb⟩⟩
def cat (ps : List Part) : List Nat := (ps.map fun p => p.2.2).flatten
theorem cat_take (ps : List Part) (j : Nat) (p : Part) (h : ps[j]? = some p) : cat (ps.take (j + 1)) = cat (ps.take j) ++ p.2.2 := by
  obtain ⟨hj, rfl⟩ := List.getElem?_eq_some_iff.1 h
  rw [List.take_succ_eq_append_getElem hj]
  unfold cat
  rw [List.map_append, List.flatten_append]
  simp only [List.map_cons, List.map_nil, List.flatten_cons, List.flatten_nil, List.append_nil]
theorem cat_take_le (ps : List Part) (j : Nat) : (cat (ps.take j)).length ≤ (cat ps).length := by
  have h : cat ps = cat (ps.take j) ++ cat (ps.drop j) := by
    conv => lhs; rw [← List.take_append_drop j ps]
    unfold cat
    rw [List.map_append, List.flatten_append]
  rw [h, List.length_append]
  omega
theorem make_cap (L : Nat) (hL : L ≤ 281474976710656) (w : World) : ∃ X : Array Value, X.size = L ∧ (Instr.makeSlice 43 (.int .i64 0) (.int .i64 (L : Int))).run Try.prog w = .ok (.slice (some ⟨w.heap.size, 0, none⟩) 0 L) (w.alloc (.cells X 5)) := by
  obtain ⟨i0, hi, hz0, hz1, hz2⟩ := info_parts info5
  have h := run_make (P := Try.prog) w 43 5 i0 (.int .u8 0) Try.underlying43 hi hz0 .i64 .i64 0 (L : Int) (by omega) (by omega) (by rw [hz2]; omega) (by omega)
  refine ⟨_, ?_, h.trans (by rw [show ((L : Int)).toNat = L by omega]; rfl)⟩
  rw [size_madeCells, hz1]; omega

set_option maxRecDepth 100000 in
set_option maxHeartbeats 1600000 in
theorem join_any (b off c : Nat) (ps : List Part) (w : World) (hp : Parts w w.heap.size b off ps) (hlen : ps.length ≤ 1000) (ht : (cat ps).length ≤ 281474976710656) :
    Calls Try.prog 56 #[.slice (some ⟨b, off, none⟩) ps.length c] w (Owned (cat ps) w) := by
  obtain ⟨T, hT⟩ : ∃ T, (cat ps).length = T := ⟨_, rfl⟩
  rw [hT] at ht
  obtain ⟨X, hX, hmk⟩ := make_cap T ht w
  have hO0 : OwnB (w.alloc (.cells X 5)) w.heap.size w.heap.size T [] := OwnB.of X (Nat.le_refl _) (heap_alloc_new w _) (by simp) (by unfold maxLen; omega) hX (by simp [cellsB])
  have hB0 : Below w.heap.size w (w.alloc (.cells X 5)) := (Below.refl _ w).alloc (Nat.le_refl _) _
  have HP := Lib.hid hp
  have HO0 := Lib.hid hO0
  have HT := Lib.hid hT
  obtain ⟨N, hN⟩ : ∃ N, ps.length = N := ⟨_, rfl⟩
  have HN := Lib.hid hN
  rw [hN] at hlen ⊢
  clear hp hO0 hX hT hN
  go_enter Try.func56, Try.ntmps56
  go_wp2
  go_loop [3, 5, 11] (fun s _ k => ∃ (j t : Nat), j ≤ N ∧ t ≤ T ∧ s = .int .i64 t ∧ k = .int .i64 j ∧ Hid ((cat (ps.take j)).length = t)) (fun _ _ k => N - (intOf k).toNat)
  case atStart => exact ⟨0, 0, by omega, by omega, rfl, rfl, by simp [cat, Hid]⟩
  case round =>
    obtain ⟨j, t, hj, htT, rfl, rfl, hs⟩ := hrel
    by_cases hlt : j < N
    · obtain ⟨p, hpj⟩ : ∃ p, ps[j]? = some p := ⟨_, List.getElem?_eq_getElem (by rw [HN.out]; exact hlt)⟩
      obtain ⟨hc, -⟩ := HP.out.2 j p hpj
      obtain ⟨A1, c1, l1⟩ := p
      have HC : Hid ((cat (ps.take (j + 1))).length = t + l1.length) := by show _ = _; rw [cat_take ps j _ hpj, List.length_append, hs.out]
      have hle : t + l1.length ≤ T := by rw [← HC.out, ← HT.out]; exact cat_take_le ps _
      have HPJ := Lib.hid hpj
      clear hpj
      simp only [Part.val] at hc
      go_wp2
      go_round
      case rel => exact ⟨j + 1, t + l1.length, by omega, hle, by go_num, by go_num, HC⟩
      case measure => simp [intOf]; omega
    · obtain rfl : j = N := by omega
      have HC : Hid (t = T) := by show _ = _; rw [← hs.out, ← HT.out, ← HN.out, List.take_length]
      have htt := HC.out
      subst htt
      go_wp2
      go_loopw [6, 8, 24] (fun o _ x wr => ∃ (i : Nat) (L : List Nat), i ≤ j ∧ L.length ≤ t ∧ o = .slice (some ⟨w.heap.size, 0, none⟩) L.length t ∧ x = .int .i64 i ∧ Hid (L = cat (ps.take i)) ∧ Hid (OwnB wr w.heap.size w.heap.size t L) ∧ Below w.heap.size w wr) (fun _ _ x _ => j - (intOf x).toNat)
      case atStart => exact ⟨0, [], by omega, by simp, rfl, rfl, by simp [cat, Hid], HO0, hB0⟩
      case round =>
        obtain ⟨i, L, hi, hLt, rfl, rfl, hL, hO, hB⟩ := hrel
        by_cases hlt : i < j
        · obtain ⟨p, hpj⟩ : ∃ p, ps[i]? = some p := ⟨_, List.getElem?_eq_getElem (by rw [HN.out]; exact hlt)⟩
          obtain ⟨hc, hrow⟩ := (HP.out.below hB).2 i p hpj
          obtain ⟨A1, c1, l1⟩ := p
          have HC : Hid (cat (ps.take (i + 1)) = L ++ l1) := by show _ = _; rw [cat_take ps i _ hpj, hL.out]
          have hle : L.length + l1.length ≤ t := by
            have := cat_take_le ps (i + 1)
            rw [HC.out, HT.out, List.length_append] at this
            exact this
          have HPJ := Lib.hid hpj
          clear hpj
          simp only [Part.val] at hc
          obtain ⟨w2, hap, hO2, hg2⟩ := hO.out.fits A1 c1 l1 _ hrow 43 hle
          have hB2 : Below w.heap.size w w2 := hB.grown hg2 hB.size (by rintro k e; cases e; exact Nat.le_refl _)
          have HAP := Lib.hid hap
          have HO2 := Lib.hid hO2
          clear hap hO2 hg2 hrow
          go_wp2_with (at_builtin; refine wpList_append_run rfl _ _ _ _ rfl _ _ rfl rfl HAP.out ?_)
          go_round
          case rel => exact ⟨i + 1, L ++ l1, by omega, by rw [List.length_append]; exact hle, by rw [List.length_append], by go_num, HC.out.symm, HO2, hB2⟩
          case measure => simp [intOf]; omega
        · obtain rfl : i = j := by omega
          have HC : Hid (L = cat ps) := by show _ = _; rw [hL.out, ← HN.out, List.take_length]
          go_wp2
          go_ret
          rw [← HC.out]
          exact ⟨_, t, rfl, hO.out, hB⟩
end Go.Proofs.Ytadcmljcbmfcaaa.Wi
