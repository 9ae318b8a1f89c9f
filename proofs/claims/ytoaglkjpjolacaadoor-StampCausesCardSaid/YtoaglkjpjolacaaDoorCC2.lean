/-
  StampCauses: the small functions: which one a number speaks of; what one of two has seen; has the other one seen all.
-/
import Derived.Test.YtoaglkjpjolacaaDoorCS4
import Derived.Deep.LoopGhost
import Derived.Deep.OwnRows
import Derived.Maps.AppendAt
namespace Go.Proofs.YtoaglkjpjolacaaDoor.S
open Go.RowKit
theorem tmod_lim (x n : Int) (h : 0 < n) (hx : 0 ≤ x) : 0 ≤ x.tmod n ∧ x.tmod n < n := by
  rw [Int.tmod_eq_emod_of_nonneg hx]
  exact ⟨Int.emod_nonneg _ (by omega), Int.emod_lt_of_pos _ h⟩
/-- Which of n things a number speaks of. -/
def pickZ (c n : Int) : Int := (if c < 0 then -(c + 1) else c).tmod n
theorem pickZ_lim (c n : Int) (h : 0 < n) : 0 ≤ pickZ c n ∧ pickZ c n < n := by
  unfold pickZ
  split
  · exact tmod_lim _ n h (by omega)
  · exact tmod_lim _ n h (by omega)
set_option maxHeartbeats 800000 in
theorem pick_any (c n : Int) (w : World) (h1 : -9223372036854775808 ≤ c) (h2 : c ≤ 9223372036854775807) (hn : 0 < n) (hn2 : n ≤ 1000) : Calls Tryd.prog 37 #[.int .i64 c, .int .i64 n] w fun e w' => e = .returned (.int .i64 (pickZ c n)) ∧ w' = w := by
  have hl := pickZ_lim c n hn
  have hnz : (n == 0) = false := beq_eq_false_iff_ne.2 (by omega)
  by_cases hc : c < 0
  · have e1 : IntKind.i64.wrap (c + 1) = c + 1 := E.wrap_id (by omega) (by omega)
    have e2 : IntKind.i64.wrap (-(c + 1)) = -(c + 1) := E.wrap_id (by omega) (by omega)
    have e3 : pickZ c n = (-(c + 1)).tmod n := by unfold pickZ; rw [if_pos hc]
    rw [e3] at hl ⊢
    have e4 : IntKind.i64.wrap ((-(c + 1)).tmod n) = (-(c + 1)).tmod n := E.wrap_id (by omega) (by omega)
    go_enter Tryd.func37, Tryd.ntmps37
    go_wp2
    go_ret
    exact ⟨E.ret_int (by first | rfl | exact (Int.neg_tmod _ _).symm | exact (Int.tmod_eq_emod_of_nonneg (by omega)).symm), rfl⟩
  · have e3 : pickZ c n = c.tmod n := by unfold pickZ; rw [if_neg hc]
    rw [e3] at hl ⊢
    have e4 : IntKind.i64.wrap (c.tmod n) = c.tmod n := E.wrap_id (by omega) (by omega)
    go_enter Tryd.func37, Tryd.ntmps37
    go_wp2
    go_ret
    exact ⟨E.ret_int (by first | rfl | exact (Int.neg_tmod _ _).symm | exact (Int.tmod_eq_emod_of_nonneg (by omega)).symm), rfl⟩
/-- A slice of truth values that lies somewhere (nil let in). -/
def RowB (w : World) (A : Option Addr) (l : List Bool) : Prop := l = [] ∨ ∃ b off, A = some ⟨b, off, none⟩ ∧ ∀ i (h : i < l.length), w.cell? ⟨b, off + i, none⟩ = some (.bool l[i])
theorem RowB.up {w w' : World} {A : Option Addr} {l : List Bool} (h : RowB w A l) (hb : Below w.heap.size w w') : RowB w' A l := by
  rcases h with h | ⟨b, off, e, h⟩
  · exact .inl h
  · exact .inr ⟨b, off, e, fun i hi => (hb.cell (World.block_lt_of_cell? w _ (h i hi))).trans (h i hi)⟩
/-- Has the other one seen all? -/
def withinL (a b : List Bool) : Bool := (List.range a.length).all fun i => !(a[i]?.getD false) || (b[i]?.getD false)
theorem withinL_iff (a b : List Bool) : withinL a b = true ↔ ∀ n, sees a n = true → sees b n = true := by
  unfold withinL sees
  simp only [List.all_eq_true, List.mem_range, Bool.or_eq_true, Bool.not_eq_true']
  constructor
  · intro h n hn
    have hlt : n < a.length := by
      rcases Nat.lt_or_ge n a.length with h | h
      · exact h
      · rw [List.getElem?_eq_none h] at hn; cases hn
    rcases h n hlt with h | h
    · rw [hn] at h; cases h
    · exact h
  · intro h n _
    cases hn : a[n]?.getD false with
    | false => exact .inl rfl
    | true => exact .inr (h n hn)
set_option maxRecDepth 100000 in
set_option maxHeartbeats 3200000 in
theorem within_any (A B : Option Addr) (a b : List Bool) (c d : Nat) (w : World) (ha : RowB w A a) (hb : RowB w B b) (la : a.length ≤ 1000000) (lb : b.length ≤ 1000000) (_hc : a.length ≤ c) (_hd : b.length ≤ d) :
    Calls Tryd.prog 41 #[.slice A a.length c, .slice B b.length d] w fun e w' => e = .returned (.bool (withinL a b)) ∧ w' = w := by
  have HA := Lib.hid ha
  have HB := Lib.hid hb
  have hfin : ∀ k, k = a.length → (∀ j, j < k → sees a j = true → sees b j = true) → withinL a b = true := by
    rintro k rfl h
    refine (withinL_iff a b).2 fun n hn => h n ?_ hn
    rcases Nat.lt_or_ge n a.length with h | h
    · exact h
    · unfold sees at hn; rw [List.getElem?_eq_none h] at hn; cases hn
  have hbad : ∀ k, sees a k = true → sees b k = false → withinL a b = false := by
    intro k h1 h2
    cases hw : withinL a b with
    | false => rfl
    | true => have := (withinL_iff a b).1 hw k h1; rw [h2] at this; cases this
  have HFIN := Lib.hid hfin
  have HBAD := Lib.hid hbad
  clear ha hb hfin hbad
  go_enter Tryd.func41, Tryd.ntmps41
  go_wp2_with fail
  go_loopg [5] a.length (fun m i wr => ∃ k : Nat, k ≤ a.length ∧ m = a.length - k ∧ i = .int .i64 (k : Int) ∧ Hid (∀ j, j < k → sees a j = true → sees b j = true) ∧ wr = w)
  case atStart => exact ⟨0, Nat.zero_le _, rfl, rfl, Lib.hid (fun j hj => by omega), rfl⟩
  case round =>
    obtain ⟨k, hk, hgk, rfl, hinv, rfl⟩ := hrel
    have HGK := Lib.hid hgk
    clear hgk
    by_cases hlt : k < a.length
    · have hlti : (k : Int) < (a.length : Int) := by omega
      have hwr : IntKind.i64.wrap ((k : Int) + 1) = (k : Int) + 1 := E.wrap_id (by omega) (by omega)
      have hkc : (k : Int) < (c : Int) := by omega
      have hnx : ∀ r : Bool, a[k] = r → (r = true → sees b k = true) → Hid (∀ j, j < k + 1 → sees a j = true → sees b j = true) := by
        intro r hr hb
        refine Lib.hid fun j hj hs => ?_
        by_cases e : j = k
        · subst e
          unfold sees at hs
          rw [List.getElem?_eq_getElem hlt] at hs
          exact hb (hr.symm.trans hs)
        · exact hinv.out j (by omega) hs
      obtain ⟨bA, oA, rfl, hA⟩ : ∃ bA oA, A = some ⟨bA, oA, none⟩ ∧ ∀ i (h : i < a.length), wr.cell? ⟨bA, oA + i, none⟩ = some (.bool a[i]) := by
        rcases HA.out with h | h
        · subst h; simp at hlt
        · exact h
      have ca := hA k hlt
      obtain ⟨ak, hak⟩ : ∃ ak, a[k] = ak := ⟨_, rfl⟩
      rw [hak] at ca
      have HNX := Lib.hid (hnx ak hak)
      have HSA : Hid (sees a k = ak) := Lib.hid (by unfold sees; rw [List.getElem?_eq_getElem hlt]; exact hak)
      have HLT := Lib.hid hlt
      have HK := Lib.hid hk
      clear hA hnx hak hinv hlt hk
      cases ak with
      | false =>
        go_wp2
        go_roundg (a.length - (k + 1))
        case measure => have := HGK.out; have := HLT.out; omega
        case rel => exact ⟨k + 1, by have := HLT.out; omega, rfl, by simp, HNX.out (fun h => by cases h), rfl⟩
      | true =>
        by_cases hb2 : k < b.length
        · have hb3 : ¬ (b.length : Int) ≤ (k : Int) := by omega
          have hkd : (k : Int) < (d : Int) := by omega
          obtain ⟨bB, oB, rfl, hB⟩ : ∃ bB oB, B = some ⟨bB, oB, none⟩ ∧ ∀ i (h : i < b.length), wr.cell? ⟨bB, oB + i, none⟩ = some (.bool b[i]) := by
            rcases HB.out with h | h
            · subst h; simp at hb2
            · exact h
          have cb := hB k hb2
          obtain ⟨bk, hbk⟩ : ∃ bk, b[k] = bk := ⟨_, rfl⟩
          rw [hbk] at cb
          have HSB : Hid (sees b k = bk) := Lib.hid (by unfold sees; rw [List.getElem?_eq_getElem hb2]; exact hbk)
          clear hB hbk
          cases bk with
          | true =>
            go_wp2
            go_roundg (a.length - (k + 1))
            case measure => have := HGK.out; have := HLT.out; omega
            case rel => exact ⟨k + 1, by have := HLT.out; omega, rfl, by simp, HNX.out (fun _ => HSB.out), rfl⟩
          | false =>
            go_wp2
            go_ret
            exact ⟨E.ret_bool (HBAD.out k HSA.out HSB.out).symm, rfl⟩
        · have hb3 : (b.length : Int) ≤ (k : Int) := by omega
          have HSB : Hid (sees b k = false) := Lib.hid (by unfold sees; rw [List.getElem?_eq_none (by omega)]; rfl)
          go_wp2
          go_ret
          exact ⟨E.ret_bool (HBAD.out k HSA.out HSB.out).symm, rfl⟩
    · have hlti : ¬ (k : Int) < (a.length : Int) := by omega
      have HW := Lib.hid (HFIN.out k (by omega) hinv.out)
      clear hlt hk hinv
      go_wp2
      go_ret
      exact ⟨E.ret_bool HW.out.symm, rfl⟩
end Go.Proofs.YtoaglkjpjolacaaDoor.S
namespace Go.Proofs.YtoaglkjpjolacaaDoor.S
open Go.RowKit
set_option linter.unusedVariables false
set_option linter.unusedSimpArgs false
/-- A block of the call's own. -/
def Blk (w : World) (g : Nat) (t : TypeId) (cs : List Value) : Prop := w.heap[g]? = some (.cells cs.toArray t (0, 0))
theorem Blk.lt {w : World} {g : Nat} {t : TypeId} {cs : List Value} (h : Blk w g t cs) : g < w.heap.size := (Array.getElem?_eq_some_iff.1 h).1
theorem Blk.cell {w : World} {g : Nat} {t : TypeId} {cs : List Value} (h : Blk w g t cs) (i : Nat) : w.cell? ⟨g, i, none⟩ = cs[i]? := by rw [cell_of_row w g i cs.toArray t (0, 0) h]; simp
theorem Blk.frozen {w : World} {g : Nat} {t : TypeId} {cs : List Value} (h : Blk w g t cs) (i : Nat) : w.frozen? ⟨g, i, none⟩ = false := by simp [World.frozen?, show w.heap[g]? = _ from h]
theorem Blk.store {w : World} {g : Nat} {t : TypeId} {cs : List Value} (h : Blk w g t cs) (i : Nat) (u : Value) : Blk (w.setCell ⟨g, i, none⟩ u) g t (cs.set i u) := by
  unfold Blk at *
  simp [World.setCell, Array.getElem?_modify, h]
theorem Blk.below {w w' : World} {g B : Nat} {t : TypeId} {cs : List Value} (h : Blk w g t cs) (hb : Below B w w') (hg : g < B) : Blk w' g t cs := (hb.block g hg).trans h
theorem Blk.new (w : World) (t : TypeId) (cs : List Value) : Blk (w.alloc (.cells cs.toArray t)) w.heap.size t cs := heap_alloc_new w _
def boolsV (l : List Bool) : List Value := l.map .bool
/-- What one of two has seen. -/
def bothL (a b : List Bool) : List Bool := (List.range (max a.length b.length)).map fun i => sees a i || sees b i
theorem sees_big {l : List Bool} {n : Nat} (h : l.length ≤ n) : sees l n = false := by unfold sees; rw [List.getElem?_eq_none h]; rfl
theorem sees_at {l : List Bool} {n : Nat} (h : n < l.length) : sees l n = l[n] := by unfold sees; rw [List.getElem?_eq_getElem h]; rfl
theorem bothL_sees (a b : List Bool) (n : Nat) : sees (bothL a b) n = (sees a n || sees b n) := by
  rcases Nat.lt_or_ge n (max a.length b.length) with h | h
  · rw [sees_at (by simpa [bothL] using h)]; simp [bothL]
  · rw [sees_big (by simpa [bothL] using h), sees_big (by omega), sees_big (by omega)]; rfl
/-- The rounds ahead of j done. -/
def bothJ (a b : List Bool) (j : Nat) : List Bool := (List.range (max a.length b.length)).map fun i => decide (i < j) && (sees a i || sees b i)
theorem bothJ_len (a b : List Bool) (j : Nat) : (bothJ a b j).length = max a.length b.length := by simp [bothJ]
theorem bothJ_zero (a b : List Bool) : bothJ a b 0 = List.replicate (max a.length b.length) false := by
  apply List.ext_getElem
  · simp [bothJ]
  · intro i h1 h2; simp [bothJ]
theorem bothJ_all (a b : List Bool) : bothJ a b (max a.length b.length) = bothL a b := by
  apply List.ext_getElem
  · simp [bothJ, bothL]
  · intro i h1 h2
    simp only [bothJ, List.length_map, List.length_range] at h1
    simp only [bothJ, bothL, List.getElem_map, List.getElem_range, decide_eq_true h1, Bool.true_and]
theorem bothJ_step (a b : List Bool) (j : Nat) (hj : j < max a.length b.length) : (boolsV (bothJ a b j)).set j (.bool (sees a j || sees b j)) = boolsV (bothJ a b (j + 1)) := by
  unfold boolsV
  rw [← List.map_set]
  congr 1
  apply List.ext_getElem
  · simp [bothJ]
  · intro i h1 h2
    rw [List.getElem_set]
    split
    · rename_i e; subst e; simp [bothJ]
    · rename_i e
      simp only [bothJ, List.getElem_map, List.getElem_range]
      have : decide (i < j) = decide (i < j + 1) := by
        by_cases h : i < j
        · rw [decide_eq_true h, decide_eq_true (by omega)]
        · rw [decide_eq_false h, decide_eq_false (by omega)]
      rw [this]
theorem info4 : (Tryd.prog.info? 4).map (fun i => (i.zero, i.size, i.bytes)) = some (some (.bool false), 1, 1) := by kernel_rfl
set_option maxRecDepth 100000 in
set_option maxHeartbeats 6400000 in
theorem both_any (A B : Option Addr) (a b : List Bool) (c d : Nat) (w : World) (ha : RowB w A a) (hb : RowB w B b) (la : a.length ≤ 1000000) (lb : b.length ≤ 1000000) (hca : a.length ≤ c) (hdb : b.length ≤ d) :
    Calls Tryd.prog 71 #[.slice A a.length c, .slice B b.length d] w fun e w' => e = .returned (.slice (some ⟨w.heap.size, 0, none⟩) (bothL a b).length (bothL a b).length) ∧ Blk w' w.heap.size 4 (boolsV (bothL a b)) ∧ Below w.heap.size w w' := by
  obtain ⟨M, hM⟩ : ∃ M, max a.length b.length = M := ⟨_, rfl⟩
  have hMi : max (a.length : Int) (b.length : Int) = (M : Int) := by omega
  have hlen : (bothL a b).length = M := by simp [bothL, hM]
  have hmk := fun (W : World) => run_make_row' (P := Tryd.prog) 74 4 (.bool false) 1 Tryd.underlying74 info4 rfl .i64 .i64 M (by omega) (by omega) W
  have hmc : (madeCells #[.bool false] M : Array Value) = (boolsV (bothJ a b 0)).toArray := by
    rw [bothJ_zero, hM]
    apply Array.ext
    · simp [madeCells, boolsV]
    · intro i h1 h2; simp [madeCells, boolsV, Nat.mod_one]
  rw [hmc] at hmk
  have HA := Lib.hid ha
  have HB := Lib.hid hb
  have HBK : Hid (Blk (w.alloc (.cells (boolsV (bothJ a b 0)).toArray 4)) w.heap.size 4 (boolsV (bothJ a b 0))) := Blk.new _ _ _
  have HBE : Hid (Below w.heap.size w (w.alloc (.cells (boolsV (bothJ a b 0)).toArray 4))) := (Below.refl _ w).alloc (Nat.le_refl _) _
  have HALL : Hid (∀ j, j = M → bothJ a b j = bothL a b) := Lib.hid (by rintro j rfl; rw [← hM]; exact bothJ_all a b)
  have HSTEP : Hid (∀ j, j < M → ∀ r, (sees a j || sees b j) = r → (boolsV (bothJ a b j)).set j (.bool r) = boolsV (bothJ a b (j + 1))) := Lib.hid (by rintro j hj r rfl; exact bothJ_step a b j (by omega))
  have HLEN := Lib.hid hlen
  have hMl : M ≤ 1000000 := by omega
  have HJL : Hid (∀ j i, i < M → ∃ u, (boolsV (bothJ a b j))[i]? = some u) := Lib.hid (by
    intro j i hi
    have : i < (boolsV (bothJ a b j)).length := by simp [boolsV, bothJ_len, hM]; exact hi
    exact ⟨_, List.getElem?_eq_getElem this⟩)
  have HM := Lib.hid hM
  clear ha hb hM hlen hmc
  go_enter Tryd.func71, Tryd.ntmps71
  go_wp2_with fail
  go_loopg [6] M (fun m i wr => ∃ k : Nat, k ≤ M ∧ m = M - k ∧ i = .int .i64 (k : Int) ∧ Hid (Blk wr w.heap.size 4 (boolsV (bothJ a b k))) ∧ Hid (Below w.heap.size w wr))
  case atStart => exact ⟨0, Nat.zero_le _, rfl, rfl, HBK, HBE⟩
  case round =>
    obtain ⟨k, hk, hgk, rfl, hbk, hbe⟩ := hrel
    have HGK := Lib.hid hgk
    clear hgk
    by_cases hlt : k < M
    · have hlti : (k : Int) < (M : Int) := by omega
      have hwr : IntKind.i64.wrap ((k : Int) + 1) = (k : Int) + 1 := E.wrap_id (by omega) (by omega)
      obtain ⟨u, hu⟩ := HJL.out k k hlt
      have hcu : wr.cell? ⟨w.heap.size, k, none⟩ = some u := (hbk.out.cell k).trans hu
      have hfr := hbk.out.frozen k
      have HLT := Lib.hid hlt
      have HNX : Hid (∀ r, (sees a k || sees b k) = r → Hid (Blk (wr.setCell ⟨w.heap.size, k, none⟩ (.bool r)) w.heap.size 4 (boolsV (bothJ a b (k + 1)))) ∧ Hid (Below w.heap.size w (wr.setCell ⟨w.heap.size, k, none⟩ (.bool r)))) := Lib.hid (fun r hr => ⟨Lib.hid (by rw [← HSTEP.out k hlt r hr]; exact hbk.out.store k (.bool r)), Lib.hid (hbe.out.setCell (p := ⟨w.heap.size, k, none⟩) (Nat.le_refl _) _)⟩)
      have CA : Hid (∀ h : k < a.length, ∃ bA oA, A = some ⟨bA, oA, none⟩ ∧ wr.cell? ⟨bA, oA + k, none⟩ = some (.bool a[k])) := Lib.hid (fun h => by
        rcases HA.out with e | ⟨bA, oA, e, hA⟩
        · subst e; simp at h
        · exact ⟨bA, oA, e, (hbe.out.cell (World.block_lt_of_cell? w _ (hA k h))).trans (hA k h)⟩)
      have CB : Hid (∀ h : k < b.length, ∃ bB oB, B = some ⟨bB, oB, none⟩ ∧ wr.cell? ⟨bB, oB + k, none⟩ = some (.bool b[k])) := Lib.hid (fun h => by
        rcases HB.out with e | ⟨bB, oB, e, hB⟩
        · subst e; simp at h
        · exact ⟨bB, oB, e, (hbe.out.cell (World.block_lt_of_cell? w _ (hB k h))).trans (hB k h)⟩)
      clear hu hlt hk hbk hbe
      by_cases h1 : k < a.length
      · have h1i : (k : Int) < (a.length : Int) := by omega
        have hkc : (k : Int) < (c : Int) := by omega
        obtain ⟨bA, oA, rfl, ca⟩ := CA.out h1
        obtain ⟨ak, hak⟩ : ∃ ak, a[k] = ak := ⟨_, rfl⟩
        rw [hak] at ca
        have HSA : Hid (sees a k = ak) := Lib.hid (by rw [sees_at h1]; exact hak)
        clear hak
        cases ak with
        | true =>
          have hnx := HNX.out true (by rw [HSA.out, Bool.true_or])
          have HN1 := Lib.hid hnx
          clear hnx
          go_wp2
          go_roundg (M - (k + 1))
          case measure => have := HGK.out; have := HLT.out; omega
          case rel => exact ⟨k + 1, by have := HLT.out; omega, rfl, by simp, HN1.out.1, HN1.out.2⟩
        | false =>
          by_cases h2 : k < b.length
          · have h2i : (k : Int) < (b.length : Int) := by omega
            have hkd : (k : Int) < (d : Int) := by omega
            obtain ⟨bB, oB, rfl, cb⟩ := CB.out h2
            obtain ⟨bk, hbk⟩ : ∃ bk, b[k] = bk := ⟨_, rfl⟩
            rw [hbk] at cb
            have HSB : Hid (sees b k = bk) := Lib.hid (by rw [sees_at h2]; exact hbk)
            clear hbk
            cases bk with
            | true =>
              have hnx := HNX.out true (by rw [HSB.out, Bool.or_true])
              have HN1 := Lib.hid hnx
              clear hnx
              go_wp2
              go_roundg (M - (k + 1))
              case measure => have := HGK.out; have := HLT.out; omega
              case rel => exact ⟨k + 1, by have := HLT.out; omega, rfl, by simp, HN1.out.1, HN1.out.2⟩
            | false =>
              have hnx := HNX.out false (by rw [HSB.out, HSA.out]; rfl)
              have HN1 := Lib.hid hnx
              clear hnx
              go_wp2
              go_roundg (M - (k + 1))
              case measure => have := HGK.out; have := HLT.out; omega
              case rel => exact ⟨k + 1, by have := HLT.out; omega, rfl, by simp, HN1.out.1, HN1.out.2⟩
          · have h2i : ¬ (k : Int) < (b.length : Int) := by omega
            have HSB : Hid (sees b k = false) := Lib.hid (sees_big (by omega))
            have hnx := HNX.out false (by rw [HSB.out, HSA.out]; rfl)
            have HN1 := Lib.hid hnx
            clear hnx
            go_wp2
            go_roundg (M - (k + 1))
            case measure => have := HGK.out; have := HLT.out; omega
            case rel => exact ⟨k + 1, by have := HLT.out; omega, rfl, by simp, HN1.out.1, HN1.out.2⟩
      · have h1i : ¬ (k : Int) < (a.length : Int) := by omega
        have HSA : Hid (sees a k = false) := Lib.hid (sees_big (by omega))
        by_cases h2 : k < b.length
        · have h2i : (k : Int) < (b.length : Int) := by omega
          have hkd : (k : Int) < (d : Int) := by omega
          obtain ⟨bB, oB, rfl, cb⟩ := CB.out h2
          obtain ⟨bk, hbk⟩ : ∃ bk, b[k] = bk := ⟨_, rfl⟩
          rw [hbk] at cb
          have HSB : Hid (sees b k = bk) := Lib.hid (by rw [sees_at h2]; exact hbk)
          clear hbk
          cases bk with
          | true =>
            have hnx := HNX.out true (by rw [HSB.out, Bool.or_true])
            have HN1 := Lib.hid hnx
            clear hnx
            go_wp2
            go_roundg (M - (k + 1))
            case measure => have := HGK.out; have := HLT.out; omega
            case rel => exact ⟨k + 1, by have := HLT.out; omega, rfl, by simp, HN1.out.1, HN1.out.2⟩
          | false =>
            have hnx := HNX.out false (by rw [HSB.out, HSA.out]; rfl)
            have HN1 := Lib.hid hnx
            clear hnx
            go_wp2
            go_roundg (M - (k + 1))
            case measure => have := HGK.out; have := HLT.out; omega
            case rel => exact ⟨k + 1, by have := HLT.out; omega, rfl, by simp, HN1.out.1, HN1.out.2⟩
        · have h2i : ¬ (k : Int) < (b.length : Int) := by omega
          have HSB : Hid (sees b k = false) := Lib.hid (sees_big (by omega))
          exfalso; have := HLT.out; have := HM.out; omega
    · have hlti : ¬ (k : Int) < (M : Int) := by omega
      have HAL := Lib.hid (HALL.out k (by omega))
      clear hlt hk
      go_wp2
      go_ret
      exact ⟨by rw [HLEN.out]; rfl, by rw [← HAL.out]; exact hbk.out, hbe.out⟩
end Go.Proofs.YtoaglkjpjolacaaDoor.S
namespace Go.Proofs.YtoaglkjpjolacaaDoor.S
open Go.RowKit
set_option linter.unusedVariables false
set_option linter.unusedSimpArgs false
/-- A block that can't hold a tree's node. -/
def NoT (W : World) (g : Nat) : Prop :=
  (∀ off o o', W.cell? ⟨g, off, none⟩ = some (.bool o) → W.cell? ⟨g, off + 2, none⟩ = some (.bool o') → False) ∧
  (∀ off z z', W.cell? ⟨g, off, none⟩ = some (.int .i64 z) → W.cell? ⟨g, off + 2, none⟩ = some (.int .i64 z') → False)
/-- All blocks but one lie as they lay. -/
def But (W W' : World) (g : Nat) : Prop := ∀ b, b ≠ g → b < W.heap.size → W'.heap[b]? = W.heap[b]?
theorem But.cell {W W' : World} {g b i : Nat} {v : Value} (h : But W W' g) (hne : b ≠ g) (hc : W.cell? ⟨b, i, none⟩ = some v) : W'.cell? ⟨b, i, none⟩ = some v :=
  (World.cell?_of_block (w := W) (a := ⟨b, i, none⟩) (h b hne (World.block_lt_of_cell? W ⟨b, i, none⟩ hc))).trans hc
theorem NoT.ein {P : Nat → Prop} {W W' : World} {g : Nat} (hg : NoT W g) (hk : But W W' g) : ∀ {t : E.Tr} {v : Value}, E.InP P W t v → E.InP P W' t v
  | .leaf _, _, h => h
  | .node _ _ _, _, ⟨b, off, c, e, hb, ⟨o1, A1, n1, c1, k1, k2, k3⟩, ⟨o2, A2, n2, c2, g1, g2, g3⟩⟩ => by
    have hne : b ≠ g := by rintro rfl; exact hg.2 _ _ _ k1 g1
    exact ⟨b, off, c, e, hb, ⟨o1, A1, n1, c1, hk.cell hne k1, hk.cell hne k2, NoT.ein hg hk k3⟩, ⟨o2, A2, n2, c2, hk.cell hne g1, hk.cell hne g2, NoT.ein hg hk g3⟩⟩
theorem NoT.iin {B : Nat} {W W' : World} {g : Nat} (hg : NoT W g) (hk : But W W' g) : ∀ {t : I.Tr} {v : Value}, I.InT W B t v → I.InT W' B t v
  | .leaf _, _, h => h
  | .node _ _, _, ⟨b, off, c, e, hb, ⟨o1, A1, n1, c1, k1, k2, k3⟩, ⟨o2, A2, n2, c2, g1, g2, g3⟩⟩ => by
    have hne : b ≠ g := by rintro rfl; exact hg.1 _ _ _ k1 g1
    exact ⟨b, off, c, e, hb, ⟨o1, A1, n1, c1, hk.cell hne k1, hk.cell hne k2, NoT.iin hg hk k3⟩, ⟨o2, A2, n2, c2, hk.cell hne g1, hk.cell hne g2, NoT.iin hg hk g3⟩⟩
theorem int_more : ∀ {W : World} {B B' : Nat} (hB : B ≤ B') {t : I.Tr} {v : Value}, I.InT W B t v → I.InT W B' t v
  | _, _, _, _, .leaf _, _, h => h
  | _, _, _, hB, .node _ _, _, ⟨b, off, c, e, hb, ⟨o1, A1, n1, c1, k1, k2, k3⟩, ⟨o2, A2, n2, c2, g1, g2, g3⟩⟩ =>
    ⟨b, off, c, e, Nat.lt_of_lt_of_le hb hB, ⟨o1, A1, n1, c1, k1, k2, int_more hB k3⟩, ⟨o2, A2, n2, c2, g1, g2, int_more hB g3⟩⟩
theorem NoT.it {W W' : World} {g : Nat} (hg : NoT W g) (hk : But W W' g) (hs : W.heap.size ≤ W'.heap.size) {t : I.Tr} {v : Value} (h : IT W t v) : IT W' t v := int_more hs (hg.iin hk h)
theorem NoT.et {W W' : World} {g : Nat} (hg : NoT W g) (hk : But W W' g) (hs : W.heap.size ≤ W'.heap.size) {t : E.Tr} {v : Value} (h : ET W t v) : ET W' t v := E.InP.more (fun _ hb => Nat.lt_of_lt_of_le hb hs) (hg.ein hk h)

/-- A stamp's cells. -/
structure Sc where
  o : Bool
  A : Option Addr
  n : Nat
  c : Nat
  z : Int
  B : Option Addr
  m : Nat
  d : Nat
def Sc.v (s : Sc) : Value := sv s.o s.A s.n s.c s.z s.B s.m s.d
def Sc.iv (s : Sc) : Value := I.tv s.o s.A s.n s.c
def Sc.ev (s : Sc) : Value := E.tv s.z s.B s.m s.d
def Sc.l (s : Sc) : List Value := [.bool s.o, .slice s.A s.n s.c, .int .i64 s.z, .slice s.B s.m s.d]
def Sc.zero : Sc := ⟨false, none, 0, 0, 0, none, 0, 0⟩
def cellsS (l : List Sc) : List Value := l.flatMap Sc.l
theorem cellsS_cons (s : Sc) (l : List Sc) : cellsS (s :: l) = s.l ++ cellsS l := rfl
theorem cellsS_append (a b : List Sc) : cellsS (a ++ b) = cellsS a ++ cellsS b := by simp [cellsS]
theorem cellsS_length (l : List Sc) : (cellsS l).length = l.length * 4 := by
  induction l with
  | nil => rfl
  | cons s l ih => rw [cellsS_cons, List.length_append, ih]; simp [Sc.l]; omega
theorem cellsS_get : ∀ (l : List Sc) (j : Nat) (s : Sc), l[j]? = some s → (cellsS l)[j * 4]? = some (.bool s.o) ∧ (cellsS l)[j * 4 + 1]? = some (.slice s.A s.n s.c) ∧ (cellsS l)[j * 4 + 2]? = some (.int .i64 s.z) ∧ (cellsS l)[j * 4 + 3]? = some (.slice s.B s.m s.d)
  | [], j, s, h => by simp at h
  | q :: t, 0, s, h => by simp at h; subst h; simp [cellsS_cons, Sc.l]
  | q :: t, j + 1, s, h => by
    have ih := cellsS_get t j s (by simpa using h)
    have e : cellsS (q :: t) = .bool q.o :: .slice q.A q.n q.c :: .int .i64 q.z :: .slice q.B q.m q.d :: cellsS t := rfl
    rw [e, show (j + 1) * 4 = j * 4 + 1 + 1 + 1 + 1 by omega]
    simp only [List.getElem?_cons_succ]
    exact ih
theorem cellsS_set : ∀ (l : List Sc) (j : Nat) (s : Sc), j < l.length → ((((cellsS l).set (j * 4) (.bool s.o)).set (j * 4 + 1) (.slice s.A s.n s.c)).set (j * 4 + 2) (.int .i64 s.z)).set (j * 4 + 3) (.slice s.B s.m s.d) = cellsS (l.set j s)
  | [], j, s, h => by simp at h
  | q :: t, 0, s, h => by simp [cellsS_cons, Sc.l]
  | q :: t, j + 1, s, h => by
    have ih := cellsS_set t j s (by simpa using h)
    have e : cellsS (q :: t) = .bool q.o :: .slice q.A q.n q.c :: .int .i64 q.z :: .slice q.B q.m q.d :: cellsS t := rfl
    rw [e, show (j + 1) * 4 = j * 4 + 1 + 1 + 1 + 1 by omega, show j * 4 + 1 + 1 + 1 + 1 + 1 = j * 4 + 1 + 1 + 1 + 1 + 1 from rfl]
    simp only [List.set_cons_succ, show j * 4 + 1 + 1 + 1 + 1 + 2 = (j * 4 + 2) + 1 + 1 + 1 + 1 by omega, show j * 4 + 1 + 1 + 1 + 1 + 3 = (j * 4 + 3) + 1 + 1 + 1 + 1 by omega]
    rw [ih]
    rfl
theorem cellsS_noT {W : World} {g : Nat} {l : List Sc} (h : Blk W g 29 (cellsS l)) : NoT W g := by
  have key : ∀ off v, W.cell? ⟨g, off, none⟩ = some v → (off % 4 = 0 ∧ ∃ o, v = .bool o) ∨ (off % 4 = 1 ∧ ∃ A n c, v = .slice A n c) ∨ (off % 4 = 2 ∧ ∃ z, v = .int .i64 z) ∨ (off % 4 = 3 ∧ ∃ A n c, v = .slice A n c) := by
    intro off v hv
    rw [h.cell] at hv
    have hlt : off < l.length * 4 := by rw [← cellsS_length]; exact (List.getElem?_eq_some_iff.1 hv).1
    have hj : off / 4 < l.length := by omega
    obtain ⟨k0, k1, k2, k3⟩ := cellsS_get l (off / 4) _ (List.getElem?_eq_getElem hj)
    have hr : off % 4 = 0 ∨ off % 4 = 1 ∨ off % 4 = 2 ∨ off % 4 = 3 := by omega
    rcases hr with hr | hr | hr | hr
    · rw [show off / 4 * 4 = off by omega, hv] at k0; injection k0 with k0; exact .inl ⟨hr, _, k0⟩
    · rw [show off / 4 * 4 + 1 = off by omega, hv] at k1; injection k1 with k1; exact .inr (.inl ⟨hr, _, _, _, k1⟩)
    · rw [show off / 4 * 4 + 2 = off by omega, hv] at k2; injection k2 with k2; exact .inr (.inr (.inl ⟨hr, _, k2⟩))
    · rw [show off / 4 * 4 + 3 = off by omega, hv] at k3; injection k3 with k3; exact .inr (.inr (.inr ⟨hr, _, _, _, k3⟩))
  refine ⟨fun off o o' h0 h2 => ?_, fun off z z' h0 h2 => ?_⟩
  · rcases key off _ h0 with ⟨e, _⟩ | ⟨_, _, _, _, e⟩ | ⟨_, _, e⟩ | ⟨_, _, _, _, e⟩
    · rcases key (off + 2) _ h2 with ⟨e', _⟩ | ⟨_, _, _, _, e'⟩ | ⟨_, _, e'⟩ | ⟨_, _, _, _, e'⟩
      · omega
      · cases e'
      · cases e'
      · cases e'
    · cases e
    · cases e
    · cases e
  · rcases key off _ h0 with ⟨_, _, e⟩ | ⟨_, _, _, _, e⟩ | ⟨e, _⟩ | ⟨_, _, _, _, e⟩
    · cases e
    · cases e
    · rcases key (off + 2) _ h2 with ⟨_, _, e'⟩ | ⟨_, _, _, _, e'⟩ | ⟨e', _⟩ | ⟨_, _, _, _, e'⟩
      · cases e'
      · cases e'
      · omega
      · cases e'
    · cases e
/-- A slice's cell. -/
structure Rw where
  A : Option Addr
  n : Nat
  c : Nat
def Rw.v (r : Rw) : Value := .slice r.A r.n r.c
def cellsR (l : List Rw) : List Value := l.map Rw.v
theorem cellsR_length (l : List Rw) : (cellsR l).length = l.length := by simp [cellsR]
theorem cellsR_get (l : List Rw) (j : Nat) (s : Rw) (h : l[j]? = some s) : (cellsR l)[j]? = some (.slice s.A s.n s.c) := by simp [cellsR, h, Rw.v]
theorem cellsR_set (l : List Rw) (j : Nat) (s : Rw) : (cellsR l).set j (.slice s.A s.n s.c) = cellsR (l.set j s) := by simp [cellsR, List.map_set, Rw.v]
theorem cellsR_noT {W : World} {g : Nat} {t : TypeId} {l : List Rw} (h : Blk W g t (cellsR l)) : NoT W g := by
  have key : ∀ off v, W.cell? ⟨g, off, none⟩ = some v → ∃ A n c, v = .slice A n c := by
    intro off v hv
    rw [h.cell] at hv
    unfold cellsR at hv
    rw [List.getElem?_map] at hv
    cases hq : l[off]? with
    | none => rw [hq] at hv; cases hv
    | some r => rw [hq] at hv; injection hv with hv; exact ⟨_, _, _, hv.symm⟩
  refine ⟨fun off o o' h0 _ => ?_, fun off z z' h0 _ => ?_⟩
  · obtain ⟨_, _, _, e⟩ := key off _ h0; cases e
  · obtain ⟨_, _, _, e⟩ := key off _ h0; cases e
theorem three_noT {W : World} {g : Nat} {t : TypeId} {A B : Option Addr} {n c m d : Nat} {z : Int} (h : Blk W g t [.slice A n c, .slice B m d, .int .i64 z]) : NoT W g := by
  refine ⟨fun off o o' h0 _ => ?_, fun off z z' h0 h2 => ?_⟩
  · rw [h.cell] at h0
    match off, h0 with
    | 0, h0 => simp at h0
    | 1, h0 => simp at h0
    | 2, h0 => simp at h0
    | k + 3, h0 => simp at h0
  · rw [h.cell] at h0 h2
    match off, h0, h2 with
    | 0, h0, _ => simp at h0
    | k + 1, _, h2 => simp at h2
/-- What one has seen, as a row of the call's own. -/
def RowK (W : World) (r : Rw) (l : List Bool) : Prop := r.n = l.length ∧ l.length ≤ r.c ∧ (l = [] ∨ ∃ b, r.A = some ⟨b, 0, none⟩ ∧ Blk W b 4 (boolsV l))
theorem RowK.rowB {W : World} {r : Rw} {l : List Bool} (h : RowK W r l) : RowB W r.A l := by
  rcases h.2.2 with h | ⟨b, e, hb⟩
  · exact .inl h
  · refine .inr ⟨b, 0, e, fun i hi => ?_⟩
    rw [hb.cell, Nat.zero_add]
    simp [boolsV, hi]
theorem RowK.but {W W' : World} {r : Rw} {l : List Bool} {g : Nat} {t : TypeId} {cs : List Value} (h : RowK W r l) (hb : But W W' g) (hg : Blk W g t cs) (ht : t ≠ 4) : RowK W' r l := by
  refine ⟨h.1, h.2.1, ?_⟩
  rcases h.2.2 with h | ⟨b, e, hr⟩
  · exact .inl h
  · refine .inr ⟨b, e, (hb b ?_ hr.lt).trans hr⟩
    rintro rfl
    have e := (show W.heap[b]? = _ from hg).symm.trans hr
    injection e with e
    injection e with _ e _
    exact ht e
theorem RowK.up {W W' : World} {r : Rw} {l : List Bool} (h : RowK W r l) (hb : Below W.heap.size W W') : RowK W' r l := by
  refine ⟨h.1, h.2.1, ?_⟩
  rcases h.2.2 with h | ⟨b, e, hr⟩
  · exact .inl h
  · exact .inr ⟨b, e, hr.below hb hr.lt⟩
theorem Blk.ne {W : World} {g g' : Nat} {t t' : TypeId} {cs cs' : List Value} (h : Blk W g t cs) (h' : Blk W g' t' cs') (ht : t ≠ t') : g ≠ g' := by
  rintro rfl
  have e := (show W.heap[g]? = _ from h).symm.trans h'
  injection e with e
  injection e with _ e _
  exact ht e
theorem Blk.but {W W' : World} {g g' : Nat} {t : TypeId} {cs : List Value} (h : Blk W g t cs) (hb : But W W' g') (hne : g ≠ g') : Blk W' g t cs := (hb g hne h.lt).trans h
/-- The state: what a world's three cells say, the stamps, what each has seen. -/
structure Stt (W : World) (B g gl gs : Nat) (CS : List Sc) (SS : List Rw) (Q : List St3) (n : Nat) : Prop where
  st : Blk W g 45 [.slice (some ⟨gl, 0, none⟩) Q.length CS.length, .slice (some ⟨gs, 0, none⟩) Q.length SS.length, .int .i64 n]
  bl : Blk W gl 29 (cellsS CS)
  bs : Blk W gs 74 (cellsR SS)
  lc : Q.length ≤ CS.length
  ls : Q.length ≤ SS.length
  el : ∀ (j : Nat) (q : St3), Q[j]? = some q → ∃ s : Sc, CS[j]? = some s ∧ IT W q.1 s.iv ∧ ET W q.2.1 s.ev
  er : ∀ (j : Nat) (q : St3), Q[j]? = some q → ∃ r : Rw, SS[j]? = some r ∧ RowK W r q.2.2
  hB : B ≤ g ∧ B ≤ gl ∧ B ≤ gs
theorem Stt.next {W W' : World} {B g gl gs n : Nat} {CS : List Sc} {SS : List Rw} {Q : List St3} (h : Stt W B g gl gs CS SS Q n) (hb : Below W.heap.size W W') : Stt W' B g gl gs CS SS Q n where
  st := h.st.below hb h.st.lt
  bl := h.bl.below hb h.bl.lt
  bs := h.bs.below hb h.bs.lt
  lc := h.lc
  ls := h.ls
  el j q hq := by obtain ⟨s, h1, h2, h3⟩ := h.el j q hq; exact ⟨s, h1, I.InT.up h2 hb, E.InP.up h3 hb⟩
  er j q hq := by obtain ⟨r, h1, h2⟩ := h.er j q hq; exact ⟨r, h1, h2.up hb⟩
  hB := h.hB
theorem set_size (W : World) (p : Addr) (u : Value) : (W.setCell p u).heap.size = W.heap.size := by simp
def put4 (W : World) (g j : Nat) (s : Sc) : World := (((W.setCell ⟨g, j * 4, none⟩ (.bool s.o)).setCell ⟨g, j * 4 + 1, none⟩ (.slice s.A s.n s.c)).setCell ⟨g, j * 4 + 2, none⟩ (.int .i64 s.z)).setCell ⟨g, j * 4 + 3, none⟩ (.slice s.B s.m s.d)
theorem put4_size (W : World) (g j : Nat) (s : Sc) : (put4 W g j s).heap.size = W.heap.size := by simp [put4]
theorem put4_but (W : World) (g j : Nat) (s : Sc) : But W (put4 W g j s) g := fun b hne _ => by
  unfold put4
  rw [Below.heap_setCell _ _ _ _ hne, Below.heap_setCell _ _ _ _ hne, Below.heap_setCell _ _ _ _ hne, Below.heap_setCell _ _ _ _ hne]
theorem put4_blk {W : World} {g j : Nat} {CS : List Sc} (h : Blk W g 29 (cellsS CS)) (hj : j < CS.length) (s : Sc) : Blk (put4 W g j s) g 29 (cellsS (CS.set j s)) := by
  rw [← cellsS_set CS j s hj]
  exact (((h.store _ _).store _ _).store _ _).store _ _
theorem put4_below {B : Nat} {W W' : World} {g : Nat} (h : Below B W W') (hg : B ≤ g) (j : Nat) (s : Sc) : Below B W (put4 W' g j s) := (((h.setCell (p := ⟨g, _, none⟩) hg _).setCell (p := ⟨g, _, none⟩) hg _).setCell (p := ⟨g, _, none⟩) hg _).setCell (p := ⟨g, _, none⟩) hg _
/-- A stamp is written anew. -/
theorem Stt.put {W : World} {B g gl gs n : Nat} {CS : List Sc} {SS : List Rw} {Q : List St3} (h : Stt W B g gl gs CS SS Q n) {a : Nat} {q : St3} (hq : Q[a]? = some q) (s : Sc) {i : I.Tr} {e : E.Tr} (hi : IT W i s.iv) (he : ET W e s.ev) :
    Stt (put4 W gl a s) B g gl gs (CS.set a s) SS (Q.set a (i, e, q.2.2)) n := by
  have hn := cellsS_noT h.bl
  have hb := put4_but W gl a s
  have hsz : W.heap.size ≤ (put4 W gl a s).heap.size := by rw [put4_size]; exact Nat.le_refl _
  have ha : a < Q.length := (List.getElem?_eq_some_iff.1 hq).1
  refine ⟨?_, put4_blk h.bl (Nat.lt_of_lt_of_le ha h.lc) s, h.bs.but hb (h.bs.ne h.bl (by decide)), ?_, ?_, fun j p hp => ?_, fun j p hp => ?_, h.hB⟩
  · have := h.st.but hb (h.st.ne h.bl (by decide))
    simpa using this
  · simpa using h.lc
  · simpa using h.ls
  · rw [List.getElem?_set] at hp
    by_cases e1 : a = j
    · subst e1
      rw [if_pos rfl, if_pos ha] at hp
      injection hp with hp
      subst hp
      exact ⟨s, by rw [List.getElem?_set, if_pos rfl, if_pos (Nat.lt_of_lt_of_le ha h.lc)], hn.it hb hsz hi, hn.et hb hsz he⟩
    · rw [if_neg e1] at hp
      obtain ⟨s', h1, h2, h3⟩ := h.el j p hp
      exact ⟨s', by rw [List.getElem?_set, if_neg e1]; exact h1, hn.it hb hsz h2, hn.et hb hsz h3⟩
  · rw [List.getElem?_set] at hp
    by_cases e1 : a = j
    · subst e1
      rw [if_pos rfl, if_pos ha] at hp
      injection hp with hp
      subst hp
      obtain ⟨r, h1, h2⟩ := h.er a q hq
      exact ⟨r, h1, h2.but hb h.bl (by decide)⟩
    · rw [if_neg e1] at hp
      obtain ⟨r, h1, h2⟩ := h.er j p hp
      exact ⟨r, h1, h2.but hb h.bl (by decide)⟩
theorem set_but (W : World) (g i : Nat) (u : Value) : But W (W.setCell ⟨g, i, none⟩ u) g := fun b hne _ => Below.heap_setCell _ _ _ _ hne
/-- What one has seen is written anew. -/
theorem Stt.see {W : World} {B g gl gs n : Nat} {CS : List Sc} {SS : List Rw} {Q : List St3} (h : Stt W B g gl gs CS SS Q n) {a : Nat} {q : St3} (hq : Q[a]? = some q) (r : Rw) {l : List Bool} (hr : RowK W r l) :
    Stt (W.setCell ⟨gs, a, none⟩ (.slice r.A r.n r.c)) B g gl gs CS (SS.set a r) (Q.set a (q.1, q.2.1, l)) n := by
  have hn := cellsR_noT h.bs
  have hb := set_but W gs a (.slice r.A r.n r.c)
  have hsz : W.heap.size ≤ (W.setCell ⟨gs, a, none⟩ (.slice r.A r.n r.c)).heap.size := by rw [set_size]; exact Nat.le_refl _
  have ha : a < Q.length := (List.getElem?_eq_some_iff.1 hq).1
  refine ⟨?_, h.bl.but hb (h.bl.ne h.bs (by decide)), ?_, ?_, ?_, fun j p hp => ?_, fun j p hp => ?_, h.hB⟩
  · have := h.st.but hb (h.st.ne h.bs (by decide))
    simpa using this
  · rw [← cellsR_set]; exact h.bs.store _ _
  · simpa using h.lc
  · simpa using h.ls
  · rw [List.getElem?_set] at hp
    by_cases e1 : a = j
    · subst e1
      rw [if_pos rfl, if_pos ha] at hp
      injection hp with hp
      subst hp
      obtain ⟨s', h1, h2, h3⟩ := h.el a q hq
      exact ⟨s', h1, hn.it hb hsz h2, hn.et hb hsz h3⟩
    · rw [if_neg e1] at hp
      obtain ⟨s', h1, h2, h3⟩ := h.el j p hp
      exact ⟨s', h1, hn.it hb hsz h2, hn.et hb hsz h3⟩
  · rw [List.getElem?_set] at hp
    by_cases e1 : a = j
    · subst e1
      rw [if_pos rfl, if_pos ha] at hp
      injection hp with hp
      subst hp
      exact ⟨r, by rw [List.getElem?_set, if_pos rfl, if_pos (Nat.lt_of_lt_of_le ha h.ls)], hr.but hb h.bs (by decide)⟩
    · rw [if_neg e1] at hp
      obtain ⟨r', h1, h2⟩ := h.er j p hp
      exact ⟨r', by rw [List.getElem?_set, if_neg e1]; exact h1, h2.but hb h.bs (by decide)⟩
/-- The struct's own three cells are written anew: in whatever order, other slices, the stamps and rows of Q'. -/
theorem Stt.own {W W' : World} {B g gl gs n : Nat} {CS : List Sc} {SS : List Rw} {Q : List St3} (h : Stt W B g gl gs CS SS Q n) (hb : But W W' g) (hsz : W'.heap.size = W.heap.size) {Q' : List St3} {n' : Nat}
    (hst : Blk W' g 45 [.slice (some ⟨gl, 0, none⟩) Q'.length CS.length, .slice (some ⟨gs, 0, none⟩) Q'.length SS.length, .int .i64 n']) (hc : Q'.length ≤ CS.length) (hs : Q'.length ≤ SS.length)
    (hel : ∀ (j : Nat) (q : St3), Q'[j]? = some q → ∃ s : Sc, CS[j]? = some s ∧ IT W q.1 s.iv ∧ ET W q.2.1 s.ev) (her : ∀ (j : Nat) (q : St3), Q'[j]? = some q → ∃ r : Rw, SS[j]? = some r ∧ RowK W r q.2.2) : Stt W' B g gl gs CS SS Q' n' := by
  have hn := three_noT h.st
  have hsz' : W.heap.size ≤ W'.heap.size := by rw [hsz]; exact Nat.le_refl _
  refine ⟨hst, h.bl.but hb (h.bl.ne h.st (by decide)), h.bs.but hb (h.bs.ne h.st (by decide)), hc, hs, fun j p hp => ?_, fun j p hp => ?_, h.hB⟩
  · obtain ⟨s', h1, h2, h3⟩ := hel j p hp
    exact ⟨s', h1, hn.it hb hsz' h2, hn.et hb hsz' h3⟩
  · obtain ⟨r', h1, h2⟩ := her j p hp
    exact ⟨r', h1, h2.but hb h.st (by decide)⟩
theorem Stt.c3 {W : World} {B g gl gs n : Nat} {CS : List Sc} {SS : List Rw} {Q : List St3} (h : Stt W B g gl gs CS SS Q n) : W.cell? ⟨g, 0, none⟩ = some (.slice (some ⟨gl, 0, none⟩) Q.length CS.length) ∧ W.cell? ⟨g, 1, none⟩ = some (.slice (some ⟨gs, 0, none⟩) Q.length SS.length) ∧ W.cell? ⟨g, 2, none⟩ = some (.int .i64 n) := ⟨h.st.cell 0, h.st.cell 1, h.st.cell 2⟩
theorem Stt.c4 {W : World} {B g gl gs n a : Nat} {CS : List Sc} {SS : List Rw} {Q : List St3} (h : Stt W B g gl gs CS SS Q n) {s : Sc} (hs : CS[a]? = some s) : W.cell? ⟨gl, a * 4, none⟩ = some (.bool s.o) ∧ W.cell? ⟨gl, a * 4 + 1, none⟩ = some (.slice s.A s.n s.c) ∧ W.cell? ⟨gl, a * 4 + 2, none⟩ = some (.int .i64 s.z) ∧ W.cell? ⟨gl, a * 4 + 3, none⟩ = some (.slice s.B s.m s.d) := by
  obtain ⟨k0, k1, k2, k3⟩ := cellsS_get CS a s hs
  exact ⟨(h.bl.cell _).trans k0, (h.bl.cell _).trans k1, (h.bl.cell _).trans k2, (h.bl.cell _).trans k3⟩
theorem Stt.c1 {W : World} {B g gl gs n a : Nat} {CS : List Sc} {SS : List Rw} {Q : List St3} (h : Stt W B g gl gs CS SS Q n) {r : Rw} (hr : SS[a]? = some r) : W.cell? ⟨gs, a, none⟩ = some (.slice r.A r.n r.c) := (h.bs.cell _).trans (cellsR_get SS a r hr)
theorem Stt.count {W : World} {B g gl gs n : Nat} {CS : List Sc} {SS : List Rw} {Q : List St3} (h : Stt W B g gl gs CS SS Q n) (n' : Nat) : Stt (W.setCell ⟨g, 2, none⟩ (.int .i64 n')) B g gl gs CS SS Q n' :=
  h.own (set_but W g 2 _) (set_size W _ _) (h.st.store 2 _) h.lc h.ls h.el h.er
/-- Cells that hold what they hold. -/
def CX (fs : List (Nat × Nat × Value)) (W : World) : Prop := ∀ f ∈ fs, W.cell? ⟨f.1, f.2.1, none⟩ = some f.2.2
theorem CX.but {fs : List (Nat × Nat × Value)} {W W' : World} {g : Nat} (h : CX fs W) (hb : But W W' g) (hd : ∀ f ∈ fs, f.1 ≠ g) : CX fs W' := fun f hf => hb.cell (hd f hf) (h f hf)
theorem CX.next {fs : List (Nat × Nat × Value)} {W W' : World} (h : CX fs W) (hb : Below W.heap.size W W') : CX fs W' := fun f hf => (hb.cell (World.block_lt_of_cell? W _ (h f hf))).trans (h f hf)
theorem sin_of {W : World} {i : I.Tr} {e : E.Tr} {s : Sc} (hi : IT W i s.iv) (he : ET W e s.ev) : SIn W i e s.v ∧ s.z = e.N := by
  obtain ⟨A, n, c, e1⟩ := E.InP.form he
  obtain ⟨o, A', n', c', z, B, m, d⟩ := s
  obtain ⟨rfl, rfl, rfl, rfl⟩ := E.tv_inj e1
  exact ⟨⟨o, A', n', c', B, m, d, rfl, hi, he⟩, rfl⟩
/-- What an operation leaves. -/
def Done (W : World) (B g : Nat) (Q' : List St3) (n' : Nat) (e : Ending) (W' : World) : Prop := e = .returned (.bool true) ∧ (∃ gl gs CS SS, Stt W' B g gl gs CS SS Q' n') ∧ Below B W W'
end Go.Proofs.YtoaglkjpjolacaaDoor.S
namespace Go.Proofs.YtoaglkjpjolacaaDoor.S
open Go.RowKit
set_option linter.unusedVariables false
set_option linter.unusedSimpArgs false
theorem zeroS_cells (k : Nat) : Builtin.zeroCells (Value.agg #[.bool false, .slice none 0 0, .int .i64 0, .slice none 0 0]).cells k = (cellsS (List.replicate k Sc.zero)).toArray := by
  apply Array.ext
  · simp [Builtin.zeroCells, cellsS_length, Value.cells]
  · intro i h1 h2
    have h3 : i < k * 4 := by simpa [cellsS_length] using h2
    obtain ⟨k0, k1, k2, k3⟩ := cellsS_get (List.replicate k Sc.zero) (i / 4) Sc.zero (by rw [List.getElem?_replicate, if_pos (by omega)])
    have hr : i % 4 = 0 ∨ i % 4 = 1 ∨ i % 4 = 2 ∨ i % 4 = 3 := by omega
    have fin : ∀ v : Value, (cellsS (List.replicate k Sc.zero))[i]? = some v → ((cellsS (List.replicate k Sc.zero)).toArray)[i]'h2 = v := by
      intro v hv
      rw [List.getElem_toArray]
      exact (List.getElem?_eq_some_iff.1 hv).2
    rcases hr with hr | hr | hr | hr
    · rw [show i / 4 * 4 = i by omega] at k0; rw [fin _ k0]; simp [Builtin.zeroCells, Value.cells, hr, Sc.zero]
    · rw [show i / 4 * 4 + 1 = i by omega] at k1; rw [fin _ k1]; simp [Builtin.zeroCells, Value.cells, hr, Sc.zero]
    · rw [show i / 4 * 4 + 2 = i by omega] at k2; rw [fin _ k2]; simp [Builtin.zeroCells, Value.cells, hr, Sc.zero]
    · rw [show i / 4 * 4 + 3 = i by omega] at k3; rw [fin _ k3]; simp [Builtin.zeroCells, Value.cells, hr, Sc.zero]
theorem zeroR_cells (k : Nat) : Builtin.zeroCells (Value.slice none 0 0).cells k = (cellsR (List.replicate k (Rw.mk none 0 0))).toArray := by
  apply Array.ext
  · simp [Builtin.zeroCells, cellsR_length, Value.cells]
  · intro i h1 h2
    simp [Builtin.zeroCells, Value.cells, cellsR, Rw.v, Nat.mod_one]
theorem setRow_but (W : World) (g : Nat) (cs : Array Value) : W.grownBy (W.setRow g cs) (some g) := ⟨rfl, rfl, rfl, by simp, fun k _ hk => setRow_other W g k _ (fun e => hk (by rw [e]))⟩
theorem grown_but {W W' : World} {g : Nat} (h : W.grownBy W' (some g)) : But W W' g := fun b hne hlt => h.block b hlt (fun e => by injection e with e; exact hne e)
theorem cellsS_take : ∀ (n : Nat) (l : List Sc), (cellsS l).take (n * 4) = cellsS (l.take n)
  | 0, l => by simp [cellsS]
  | n + 1, [] => by simp [cellsS]
  | n + 1, s :: l => by
    rw [cellsS_cons, show (n + 1) * 4 = 4 + n * 4 by omega, List.take_succ_cons, cellsS_cons, List.take_append]
    simp only [Sc.l, List.length_cons, List.length_nil]
    rw [show 4 + n * 4 - (0 + 1 + 1 + 1 + 1) = n * 4 by omega, cellsS_take n l]
    congr 1
    rw [List.take_of_length_le (by simp)]
theorem cellsS_drop : ∀ (n : Nat) (l : List Sc), (cellsS l).drop (n * 4) = cellsS (l.drop n)
  | 0, l => by simp
  | n + 1, [] => by simp [cellsS]
  | n + 1, s :: l => by
    have e : cellsS (s :: l) = .bool s.o :: .slice s.A s.n s.c :: .int .i64 s.z :: .slice s.B s.m s.d :: cellsS l := rfl
    rw [e, show (n + 1) * 4 = n * 4 + 1 + 1 + 1 + 1 by omega]
    simp only [List.drop_succ_cons]
    exact cellsS_drop n l
theorem oneS (s : Sc) : ∀ u ∈ s.l, u.oneCell' = true := by
  intro u hu
  simp only [Sc.l, List.mem_cons, List.not_mem_nil, or_false] at hu
  rcases hu with rfl | rfl | rfl | rfl <;> rfl
theorem info29 : (Tryd.prog.info? 29).map (fun i => (i.zero, i.size, i.bytes)) = some (some (.agg #[.bool false, .slice none 0 0, .int .i64 0, .slice none 0 0]), 4, 64) := by kernel_rfl
theorem info74 : (Tryd.prog.info? 74).map (fun i => (i.zero, i.size, i.bytes)) = some (some (.slice none 0 0), 1, 24) := by kernel_rfl
/-- What append says of a list of stamps. -/
structure AppS (W W' : World) (g g' n : Nat) (CS CS' : List Sc) (s : Sc) : Prop where
  blk : Blk W' g' 29 (cellsS CS')
  len : n + 1 ≤ CS'.length
  old : ∀ j, j < n → CS'[j]? = CS[j]?
  new : CS'[n]? = some s
  grw : W.grownBy W' (some g)
  lie : g' = g ∨ g' = W.heap.size
  rst : g' = g ∨ Blk W' g 29 (cellsS CS)
structure AppR (W W' : World) (g g' n : Nat) (CS CS' : List Rw) (s : Rw) : Prop where
  blk : Blk W' g' 74 (cellsR CS')
  len : n + 1 ≤ CS'.length
  old : ∀ j, j < n → CS'[j]? = CS[j]?
  new : CS'[n]? = some s
  grw : W.grownBy W' (some g)
  lie : g' = g ∨ g' = W.heap.size
  rst : g' = g ∨ Blk W' g 74 (cellsR CS)
theorem app_st {W : World} {g n : Nat} {CS : List Sc} (h : Blk W g 29 (cellsS CS)) (hn : n ≤ CS.length) (hb : n ≤ 1000) (s : Sc) (a : Addr) (c : Nat) (hs : ∀ j u, s.l[j]? = some u → W.cell? (a.add j) = some u) :
    ∃ (g' : Nat) (CS' : List Sc) (W' : World), (Builtin.append_ #[42, 42] 42 #[.slice (some ⟨g, 0, none⟩) n CS.length, .slice (some a) 1 c]).run Tryd.prog W = .ok (.slice (some ⟨g', 0, none⟩) (n + 1) CS'.length) W' ∧ AppS W W' g g' n CS CS' s := by
  obtain ⟨i, hi, hz⟩ : ∃ i, Tryd.prog.info? 29 = some i ∧ (i.zero, i.size, i.bytes) = (some (.agg #[.bool false, .slice none 0 0, .int .i64 0, .slice none 0 0]), 4, 64) := by
    have := info29
    cases hq : Tryd.prog.info? 29 with
    | none => rw [hq] at this; cases this
    | some i => rw [hq] at this; exact ⟨i, rfl, by simpa using this⟩
  simp only [Prod.mk.injEq] at hz
  obtain ⟨hz0, hz1, hz2⟩ := hz
  by_cases hroom : n + 1 ≤ CS.length
  · have hr := run_append_room (P := Tryd.prog) W 42 42 29 i Tryd.underlying42 hi g n CS.length _ h a 1 c s.l (by rw [hz1]; rfl) hs (oneS s) hroom (by rw [hz1]; simp [cellsS_length, Sc.l]; omega)
    have hlen : (CS.take n ++ [s] ++ CS.drop (n + 1)).length = CS.length := by simp; omega
    refine ⟨g, CS.take n ++ [s] ++ CS.drop (n + 1), _, by rw [hlen]; exact hr, ?_⟩
    have e1 : ((cellsS CS).toArray.toList.take (n * i.size) ++ s.l ++ (cellsS CS).toArray.toList.drop (n * i.size + s.l.length)) = cellsS (CS.take n ++ [s] ++ CS.drop (n + 1)) := by
      rw [hz1, show n * 4 + s.l.length = (n + 1) * 4 by simp [Sc.l]; omega]
      simp only [cellsS_append, ← cellsS_take, ← cellsS_drop]
      simp [cellsS]
    rw [e1]
    refine ⟨setRow_heap W g _ _ 29 _ h, by simp; omega, fun j hj => ?_, ?_, setRow_but W g _, .inl rfl, .inl rfl⟩
    · rw [List.append_assoc, List.getElem?_append_left (by simp; omega), List.getElem?_take, if_pos hj]
    · rw [List.append_assoc, List.getElem?_append_right (by simp; omega)]
      simp [Nat.min_eq_left hn]
  · obtain rfl : n = CS.length := by omega
    have hr := run_append_grow (P := Tryd.prog) W 42 42 29 i (.agg #[.bool false, .slice none 0 0, .int .i64 0, .slice none 0 0]) Tryd.underlying42 hi hz0 ⟨g, 0, none⟩ CS.length CS.length (cellsS CS) (by rw [hz1]; exact cellsS_length CS) (fun j v hj => by
        have hadd : (⟨g, 0, none⟩ : Addr).add j = ⟨g, j, none⟩ := by unfold Addr.add; split <;> simp_all
        rw [hadd, h.cell]; exact hj) a 1 c s.l (by rw [hz1]; rfl) hs (by omega) (by omega) (growslice_fits (by omega) (by rw [hz2]; omega))
    have hge := grownCap_ge W (CS.length + 1) CS.length 29
    have hlen : (CS ++ [s] ++ List.replicate (grownCap W (CS.length + 1) CS.length 29 - (CS.length + 1)) Sc.zero).length = grownCap W (CS.length + 1) CS.length 29 := by simp; omega
    refine ⟨W.heap.size, CS ++ [s] ++ List.replicate (grownCap W (CS.length + 1) CS.length 29 - (CS.length + 1)) Sc.zero, _, by rw [hlen]; exact hr, ?_⟩
    rw [zeroS_cells]
    have e1 : ((cellsS CS).toArray ++ s.l.toArray ++ (cellsS (List.replicate (grownCap W (CS.length + 1) CS.length 29 - (CS.length + 1)) Sc.zero)).toArray) = (cellsS (CS ++ [s] ++ List.replicate (grownCap W (CS.length + 1) CS.length 29 - (CS.length + 1)) Sc.zero)).toArray := by
      simp only [cellsS_append]
      simp [cellsS]
    rw [e1]
    refine ⟨heap_alloc_new W.drew _, by rw [hlen]; exact hge, fun j hj => ?_, ?_, ⟨rfl, rfl, rfl, by simp, fun k hk _ => Below.heap_alloc W.drew _ k hk⟩, .inr rfl, .inr ((Below.heap_alloc W.drew _ g h.lt).trans h)⟩
    · rw [List.append_assoc, List.getElem?_append_left hj]
    · rw [List.append_assoc, List.getElem?_append_right (Nat.le_refl _)]
      simp
theorem app_rw {W : World} {g n : Nat} {CS : List Rw} (h : Blk W g 74 (cellsR CS)) (hn : n ≤ CS.length) (hb : n ≤ 1000) (s : Rw) (a : Addr) (c : Nat) (hs : ∀ j u, [s.v][j]? = some u → W.cell? (a.add j) = some u) :
    ∃ (g' : Nat) (CS' : List Rw) (W' : World), (Builtin.append_ #[43, 43] 43 #[.slice (some ⟨g, 0, none⟩) n CS.length, .slice (some a) 1 c]).run Tryd.prog W = .ok (.slice (some ⟨g', 0, none⟩) (n + 1) CS'.length) W' ∧ AppR W W' g g' n CS CS' s := by
  obtain ⟨i, hi, hz⟩ : ∃ i, Tryd.prog.info? 74 = some i ∧ (i.zero, i.size, i.bytes) = (some (.slice none 0 0), 1, 24) := by
    have := info74
    cases hq : Tryd.prog.info? 74 with
    | none => rw [hq] at this; cases this
    | some i => rw [hq] at this; exact ⟨i, rfl, by simpa using this⟩
  simp only [Prod.mk.injEq] at hz
  obtain ⟨hz0, hz1, hz2⟩ := hz
  by_cases hroom : n + 1 ≤ CS.length
  · have hr := run_append_room (P := Tryd.prog) W 43 43 74 i Tryd.underlying43 hi g n CS.length _ h a 1 c [s.v] (by rw [hz1]; rfl) hs (by simp [Rw.v, Value.oneCell']) hroom (by rw [hz1]; simp [cellsR_length]; omega)
    have hlen : (CS.take n ++ [s] ++ CS.drop (n + 1)).length = CS.length := by simp; omega
    refine ⟨g, CS.take n ++ [s] ++ CS.drop (n + 1), _, by rw [hlen]; exact hr, ?_⟩
    have e1 : ((cellsR CS).toArray.toList.take (n * i.size) ++ [s.v] ++ (cellsR CS).toArray.toList.drop (n * i.size + [s.v].length)) = cellsR (CS.take n ++ [s] ++ CS.drop (n + 1)) := by
      rw [hz1]
      simp [cellsR, List.map_take, List.map_drop]
    rw [e1]
    refine ⟨setRow_heap W g _ _ 74 _ h, by simp; omega, fun j hj => ?_, ?_, setRow_but W g _, .inl rfl, .inl rfl⟩
    · rw [List.append_assoc, List.getElem?_append_left (by simp; omega), List.getElem?_take, if_pos hj]
    · rw [List.append_assoc, List.getElem?_append_right (by simp; omega)]
      simp [Nat.min_eq_left hn]
  · obtain rfl : n = CS.length := by omega
    have hr := run_append_grow (P := Tryd.prog) W 43 43 74 i (.slice none 0 0) Tryd.underlying43 hi hz0 ⟨g, 0, none⟩ CS.length CS.length (cellsR CS) (by rw [hz1]; simp [cellsR_length]) (fun j v hj => by
        have hadd : (⟨g, 0, none⟩ : Addr).add j = ⟨g, j, none⟩ := by unfold Addr.add; split <;> simp_all
        rw [hadd, h.cell]; exact hj) a 1 c [s.v] (by rw [hz1]; rfl) hs (by omega) (by omega) (growslice_fits (by omega) (by rw [hz2]; omega))
    have hge := grownCap_ge W (CS.length + 1) CS.length 74
    have hlen : (CS ++ [s] ++ List.replicate (grownCap W (CS.length + 1) CS.length 74 - (CS.length + 1)) (Rw.mk none 0 0)).length = grownCap W (CS.length + 1) CS.length 74 := by simp; omega
    refine ⟨W.heap.size, CS ++ [s] ++ List.replicate (grownCap W (CS.length + 1) CS.length 74 - (CS.length + 1)) (Rw.mk none 0 0), _, by rw [hlen]; exact hr, ?_⟩
    rw [zeroR_cells]
    have e1 : ((cellsR CS).toArray ++ [s.v].toArray ++ (cellsR (List.replicate (grownCap W (CS.length + 1) CS.length 74 - (CS.length + 1)) (Rw.mk none 0 0))).toArray) = (cellsR (CS ++ [s] ++ List.replicate (grownCap W (CS.length + 1) CS.length 74 - (CS.length + 1)) (Rw.mk none 0 0))).toArray := by
      simp [cellsR]
    rw [e1]
    refine ⟨heap_alloc_new W.drew _, by rw [hlen]; exact hge, fun j hj => ?_, ?_, ⟨rfl, rfl, rfl, by simp, fun k hk _ => Below.heap_alloc W.drew _ k hk⟩, .inr rfl, .inr ((Below.heap_alloc W.drew _ g h.lt).trans h)⟩
    · rw [List.append_assoc, List.getElem?_append_left hj]
    · rw [List.append_assoc, List.getElem?_append_right (Nat.le_refl _)]
      simp
end Go.Proofs.YtoaglkjpjolacaaDoor.S
namespace Go.Proofs.YtoaglkjpjolacaaDoor.S
open Go.RowKit
set_option linter.unusedVariables false
set_option linter.unusedSimpArgs false
/-- The state, of two lists: one that the stamps keep to, one that the rows keep to. -/
structure Stx (W : World) (B g gl gs : Nat) (CS : List Sc) (SS : List Rw) (QL QS : List St3) (n : Nat) : Prop where
  st : Blk W g 45 [.slice (some ⟨gl, 0, none⟩) QL.length CS.length, .slice (some ⟨gs, 0, none⟩) QS.length SS.length, .int .i64 n]
  bl : Blk W gl 29 (cellsS CS)
  bs : Blk W gs 74 (cellsR SS)
  lc : QL.length ≤ CS.length
  ls : QS.length ≤ SS.length
  el : ∀ (j : Nat) (q : St3), QL[j]? = some q → ∃ s : Sc, CS[j]? = some s ∧ IT W q.1 s.iv ∧ ET W q.2.1 s.ev
  er : ∀ (j : Nat) (q : St3), QS[j]? = some q → ∃ r : Rw, SS[j]? = some r ∧ RowK W r q.2.2
  hB : B ≤ g ∧ B ≤ gl ∧ B ≤ gs
section
variable {W W' : World} {B g gl gs n : Nat} {CS : List Sc} {SS : List Rw} {Q QL QS : List St3}
theorem Stt.x (h : Stt W B g gl gs CS SS Q n) : Stx W B g gl gs CS SS Q Q n := ⟨h.st, h.bl, h.bs, h.lc, h.ls, h.el, h.er, h.hB⟩
theorem Stx.t (h : Stx W B g gl gs CS SS Q Q n) : Stt W B g gl gs CS SS Q n := ⟨h.st, h.bl, h.bs, h.lc, h.ls, h.el, h.er, h.hB⟩
theorem Stx.next (h : Stx W B g gl gs CS SS QL QS n) (hb : Below W.heap.size W W') : Stx W' B g gl gs CS SS QL QS n where
  st := h.st.below hb h.st.lt
  bl := h.bl.below hb h.bl.lt
  bs := h.bs.below hb h.bs.lt
  lc := h.lc
  ls := h.ls
  el j q hq := by obtain ⟨s, h1, h2, h3⟩ := h.el j q hq; exact ⟨s, h1, I.InT.up h2 hb, E.InP.up h3 hb⟩
  er j q hq := by obtain ⟨r, h1, h2⟩ := h.er j q hq; exact ⟨r, h1, h2.up hb⟩
  hB := h.hB
theorem Stx.c3 (h : Stx W B g gl gs CS SS QL QS n) : W.cell? ⟨g, 0, none⟩ = some (.slice (some ⟨gl, 0, none⟩) QL.length CS.length) ∧ W.cell? ⟨g, 1, none⟩ = some (.slice (some ⟨gs, 0, none⟩) QS.length SS.length) ∧ W.cell? ⟨g, 2, none⟩ = some (.int .i64 n) := ⟨h.st.cell 0, h.st.cell 1, h.st.cell 2⟩
theorem Stx.c4 (h : Stx W B g gl gs CS SS QL QS n) {a : Nat} {s : Sc} (hs : CS[a]? = some s) : W.cell? ⟨gl, a * 4, none⟩ = some (.bool s.o) ∧ W.cell? ⟨gl, a * 4 + 1, none⟩ = some (.slice s.A s.n s.c) ∧ W.cell? ⟨gl, a * 4 + 2, none⟩ = some (.int .i64 s.z) ∧ W.cell? ⟨gl, a * 4 + 3, none⟩ = some (.slice s.B s.m s.d) := by
  obtain ⟨k0, k1, k2, k3⟩ := cellsS_get CS a s hs
  exact ⟨(h.bl.cell _).trans k0, (h.bl.cell _).trans k1, (h.bl.cell _).trans k2, (h.bl.cell _).trans k3⟩
theorem Stx.c1 (h : Stx W B g gl gs CS SS QL QS n) {a : Nat} {r : Rw} (hr : SS[a]? = some r) : W.cell? ⟨gs, a, none⟩ = some (.slice r.A r.n r.c) := (h.bs.cell _).trans (cellsR_get SS a r hr)
theorem grown_blk {g' : Nat} {t : TypeId} {cs : List Value} (h : Blk W g' t cs) (hg : W.grownBy W' (some g)) (hne : g' ≠ g) : Blk W' g' t cs := h.but (grown_but hg) hne
/-- A stamp more. -/
theorem Stx.appL (h : Stx W B g gl gs CS SS QL QS n) {g' : Nat} {CS' : List Sc} {s : Sc} (ha : AppS W W' gl g' QL.length CS CS' s) {q : St3} (hi : IT W q.1 s.iv) (he : ET W q.2.1 s.ev) (hBW : B ≤ W.heap.size) :
    Stx (W'.setCell ⟨g, 0, none⟩ (.slice (some ⟨g', 0, none⟩) (QL.length + 1) CS'.length)) B g g' gs CS' SS (QL ++ [q]) QS n := by
  have hb := grown_but ha.grw
  have hsz := ha.grw.size
  have hn := cellsS_noT h.bl
  have h1 : Blk W' g 45 _ := h.st.but hb (h.st.ne h.bl (by decide))
  have hn2 := three_noT h1
  have hb2 := set_but W' g 0 (.slice (some ⟨g', 0, none⟩) (QL.length + 1) CS'.length)
  have hsz2 : W'.heap.size ≤ (W'.setCell ⟨g, 0, none⟩ (.slice (some ⟨g', 0, none⟩) (QL.length + 1) CS'.length)).heap.size := by rw [set_size]; exact Nat.le_refl _
  have h3 : Blk W' gs 74 _ := h.bs.but hb (h.bs.ne h.bl (by decide))
  refine ⟨?_, ha.blk.but hb2 (ha.blk.ne h1 (by decide)), h3.but hb2 (h3.ne h1 (by decide)), by simpa using ha.len, h.ls, fun j p hp => ?_, fun j p hp => ?_, h.hB.1, ?_, h.hB.2.2⟩
  · have := h1.store 0 (.slice (some ⟨g', 0, none⟩) (QL.length + 1) CS'.length)
    simpa using this
  · by_cases hj : j < QL.length
    · rw [List.getElem?_append_left hj] at hp
      obtain ⟨s', k1, k2, k3⟩ := h.el j p hp
      exact ⟨s', (ha.old j hj).trans k1, hn2.it hb2 hsz2 (hn.it hb hsz k2), hn2.et hb2 hsz2 (hn.et hb hsz k3)⟩
    · rw [List.getElem?_append_right (by omega)] at hp
      have hj2 : j = QL.length := by
        have := (List.getElem?_eq_some_iff.1 hp).1
        simp at this; omega
      subst hj2
      simp at hp
      subst hp
      exact ⟨s, ha.new, hn2.it hb2 hsz2 (hn.it hb hsz hi), hn2.et hb2 hsz2 (hn.et hb hsz he)⟩
  · obtain ⟨r, k1, k2⟩ := h.er j p hp
    exact ⟨r, k1, (k2.but hb h.bl (by decide)).but hb2 h1 (by decide)⟩
  · rcases ha.lie with e | e
    · rw [e]; exact h.hB.2.1
    · rw [e]; exact hBW
/-- A row more. -/
theorem Stx.appR (h : Stx W B g gl gs CS SS QL QS n) {g' : Nat} {SS' : List Rw} {r : Rw} (ha : AppR W W' gs g' QS.length SS SS' r) {q : St3} (hr : RowK W r q.2.2) (hBW : B ≤ W.heap.size) :
    Stx (W'.setCell ⟨g, 1, none⟩ (.slice (some ⟨g', 0, none⟩) (QS.length + 1) SS'.length)) B g gl g' CS SS' QL (QS ++ [q]) n := by
  have hb := grown_but ha.grw
  have hsz := ha.grw.size
  have hn := cellsR_noT h.bs
  have h1 : Blk W' g 45 _ := h.st.but hb (h.st.ne h.bs (by decide))
  have hn2 := three_noT h1
  have hb2 := set_but W' g 1 (.slice (some ⟨g', 0, none⟩) (QS.length + 1) SS'.length)
  have hsz2 : W'.heap.size ≤ (W'.setCell ⟨g, 1, none⟩ (.slice (some ⟨g', 0, none⟩) (QS.length + 1) SS'.length)).heap.size := by rw [set_size]; exact Nat.le_refl _
  have h3 : Blk W' gl 29 _ := h.bl.but hb (h.bl.ne h.bs (by decide))
  refine ⟨?_, h3.but hb2 (h3.ne h1 (by decide)), ha.blk.but hb2 (ha.blk.ne h1 (by decide)), h.lc, by simpa using ha.len, fun j p hp => ?_, fun j p hp => ?_, h.hB.1, h.hB.2.1, ?_⟩
  · have := h1.store 1 (.slice (some ⟨g', 0, none⟩) (QS.length + 1) SS'.length)
    simpa using this
  · obtain ⟨s', k1, k2, k3⟩ := h.el j p hp
    exact ⟨s', k1, hn2.it hb2 hsz2 (hn.it hb hsz k2), hn2.et hb2 hsz2 (hn.et hb hsz k3)⟩
  · by_cases hj : j < QS.length
    · rw [List.getElem?_append_left hj] at hp
      obtain ⟨r', k1, k2⟩ := h.er j p hp
      exact ⟨r', (ha.old j hj).trans k1, (k2.but hb h.bs (by decide)).but hb2 h1 (by decide)⟩
    · rw [List.getElem?_append_right (by omega)] at hp
      have hj2 : j = QS.length := by
        have := (List.getElem?_eq_some_iff.1 hp).1
        simp at this; omega
      subst hj2
      simp at hp
      subst hp
      exact ⟨r, ha.new, (hr.but hb h.bs (by decide)).but hb2 h1 (by decide)⟩
  · rcases ha.lie with e | e
    · rw [e]; exact h.hB.2.2
    · rw [e]; exact hBW
end
theorem new_cells (W : World) (s : Sc) : ∀ j u, s.l[j]? = some u → (W.alloc (.cells #[.bool s.o, .slice s.A s.n s.c, .int .i64 s.z, .slice s.B s.m s.d] 29)).cell? ((⟨W.heap.size, 0, none⟩ : Addr).add j) = some u := by
  intro j u hu
  match j, hu with
  | 0, hu => simp [Sc.l] at hu; subst hu; simp [Addr.add]
  | 1, hu => simp [Sc.l] at hu; subst hu; simp [Addr.add]
  | 2, hu => simp [Sc.l] at hu; subst hu; simp [Addr.add]
  | 3, hu => simp [Sc.l] at hu; subst hu; simp [Addr.add]
  | k + 4, hu => simp [Sc.l] at hu
theorem CX.sub {fs fs' : List (Nat × Nat × Value)} {W : World} (h : CX fs W) (hs : ∀ f ∈ fs', f ∈ fs) : CX fs' W := fun f hf => h f (hs f hf)
theorem oper_append_run {P : Program} {w w' : World} {v' : Value} {o : Oper} {a : Act} {K : Act → World → Prop} {Q : Exit → Act → World → Prop} (s x : Operand) (t u : TypeId)
    (ho : o.op = .call { callee := .builtin .append, args := #[s, x], argTypes := #[t, u] }) (vs vx : Value) (hs : a.eval s = vs) (hx : a.eval x = vx) (hrun : (Builtin.append_ #[t, u] o.type #[vs, vx]).run P w = .ok v' w')
    (h : K (a.put o.dst v') w') : o.wp P a w K Q := by
  unfold Oper.wp execOp
  simp only [ho, resolve, invoke, builtin, Sem.run_bind, Sem.run_pure, Result.andThen_ok, List.map_toArray, List.map_cons, List.map_nil, hs, hx, hrun]
  exact h
end Go.Proofs.YtoaglkjpjolacaaDoor.S
