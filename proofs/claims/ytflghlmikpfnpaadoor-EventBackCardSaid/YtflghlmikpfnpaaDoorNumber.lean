/-
  number: what k bits from a place on are as a number.
-/
import Derived.Test.YtflghlmikpfnpaaDoorIter
namespace Go.Proofs.YtflghlmikpfnpaaDoor
open Go.RowKit Go.Shelf
attribute [local go_sem] Oper.semAt_some

def numL (bs : List Nat) : Nat := bs.foldl (fun s b => (2 * s + b) % 18446744073709551616) 0
theorem numL_snoc (bs : List Nat) (b : Nat) : numL (bs ++ [b]) = (2 * numL bs + b) % 18446744073709551616 := by simp [numL]
theorem numL_lt (bs : List Nat) : numL bs < 18446744073709551616 := by
  rcases List.eq_nil_or_concat bs with rfl | ⟨L, b, rfl⟩
  · decide
  · rw [List.concat_eq_append, numL_snoc]; exact Nat.mod_lt _ (by decide)
theorem num_eq (l : List Nat) (a k : Nat) : numL (seg l a k) = M.num l a k := by
  induction k with
  | zero => rfl
  | succ k ih => rw [seg_succ, numL_snoc, ih]; rfl
theorem or_num (v : Nat) (x : Fin 2) (_hv : v < 18446744073709551616) : bits .or .u64 (IntKind.u64.wrap ((v : Int) * 2)) ((x.val : Nat) : Int) = (((2 * v + x.val) % 18446744073709551616 : Nat) : Int) := by
  have e : IntKind.u64.wrap ((v : Int) * 2) = ((2 * v % 18446744073709551616 : Nat) : Int) := by rw [IntKind.wrap_u64]; omega
  rw [e, u64_or_nat _ _ (Nat.mod_lt _ (by decide)) (by omega), nat_join 1 _ _ (by omega) (by omega)]
  congr 1; omega
theorem cell_new_b (w : World) (v : Value) (t : TypeId) : (w.alloc (.cells #[v] t)).cell? ⟨w.heap.size, 0, none⟩ = some v := by simp


set_option maxRecDepth 100000 in
set_option maxHeartbeats 2000000 in
theorem number_in (F : Fence) (n : Nat) (h26 : F.fn 86) (h28 : F.fn 87) (h30 : F.fn 95) (hro : F.round = none) (hn : 3 ≤ n) (A : Option Addr) (c : Nat) (l : List Nat) (a z : Nat) (w : World) (hr : Row w w.heap.size A l) (hl : l.length ≤ 140737488355328) (haz : a ≤ z) (hz : z ≤ 8 * l.length) :
    CallsIn F n Tryd.prog 86 #[.slice A l.length c, .int .i64 a, .int .i64 z] w fun e W' => e = .returned (.int .u64 ((M.num l a (z - a) : Nat) : Int)) ∧ Below w.heap.size w W' := by
  have h1 : 1 ≤ n := by omega
  have HR := Lib.hid hr; clear hr
  refine callsIn_of_wp_marks Tryd.func86 rfl h26 ?_ hro
  simp only [Tryd.ntmps86, List.size_toArray, List.length_cons, List.length_nil, Nat.reduceAdd, Nat.reduceSub, Array.replicate_succ, Array.replicate_zero, List.push_toArray, List.append_toArray, List.nil_append, List.cons_append]
  gi_wp2_with (gi_at_call 87; refine (span_in F (n - 1) h28 hro _ _ _ _ _ _).mono ?_; rintro e w' ⟨rfl, rfl⟩)
  have hB0 : Below w.heap.size w ((((w.alloc (.cells #[.int .u64 0] 51)).alloc (.cells #[.slice A l.length c] 38)).alloc (.cells #[.int .i64 a] 3)).alloc (.cells #[.int .i64 z] 3)) :=
    ((((Below.refl _ w).alloc (Nat.le_refl _) _).alloc (by simp) _).alloc (by simp; omega) _).alloc (by simp; omega) _
  have hsz : ((((w.alloc (.cells #[.int .u64 0] 51)).alloc (.cells #[.slice A l.length c] 38)).alloc (.cells #[.int .i64 a] 3)).alloc (.cells #[.int .i64 z] 3)).heap.size = w.heap.size + 4 := by simp
  have c0 : ((((w.alloc (.cells #[.int .u64 0] 51)).alloc (.cells #[.slice A l.length c] 38)).alloc (.cells #[.int .i64 a] 3)).alloc (.cells #[.int .i64 z] 3)).cell? ⟨w.heap.size, 0, none⟩ = some (.int .u64 0) := by simp [go_sem]
  have f0 : ((((w.alloc (.cells #[.int .u64 0] 51)).alloc (.cells #[.slice A l.length c] 38)).alloc (.cells #[.int .i64 a] 3)).alloc (.cells #[.int .i64 z] 3)).frozen? ⟨w.heap.size, 0, none⟩ = false := by simp [go_sem]
  have c1 : ((((w.alloc (.cells #[.int .u64 0] 51)).alloc (.cells #[.slice A l.length c] 38)).alloc (.cells #[.int .i64 a] 3)).alloc (.cells #[.int .i64 z] 3)).cell? ⟨w.heap.size + 1, 0, none⟩ = some (.slice A l.length c) := by simp [go_sem]
  have c2 : ((((w.alloc (.cells #[.int .u64 0] 51)).alloc (.cells #[.slice A l.length c] 38)).alloc (.cells #[.int .i64 a] 3)).alloc (.cells #[.int .i64 z] 3)).cell? ⟨w.heap.size + 1 + 1, 0, none⟩ = some (.int .i64 a) := by simp [go_sem]
  have c3 : ((((w.alloc (.cells #[.int .u64 0] 51)).alloc (.cells #[.slice A l.length c] 38)).alloc (.cells #[.int .i64 a] 3)).alloc (.cells #[.int .i64 z] 3)).cell? ⟨w.heap.size + 1 + 1 + 1, 0, none⟩ = some (.int .i64 z) := by simp [go_sem]
  generalize ((((w.alloc (.cells #[.int .u64 0] 51)).alloc (.cells #[.slice A l.length c] 38)).alloc (.cells #[.int .i64 a] 3)).alloc (.cells #[.int .i64 z] 3)) = W0 at *
  refine wpIn_rangeFunc_ownF hro h1 (gf := 95) (lb := #[.pointer (some ⟨w.heap.size + 1 + 1, 0, none⟩), .pointer (some ⟨w.heap.size + 1 + 1 + 1, 0, none⟩), .pointer (some ⟨w.heap.size + 1, 0, none⟩)]) rfl h30 (enters_of Tryd.func95 (by kernel_rfl) rfl)
    (span_stops F (n - 1) h30 hro (by omega) (w.heap.size + 1 + 1) (w.heap.size + 1 + 1 + 1) (w.heap.size + 1) w.heap.size a (z - a) c A l hl (by omega) W0 (by omega) (by omega) (by omega) (by omega) c2 (by rw [c3]; congr 3; omega) c1 (HR.out.below hB0)) KeepCells.trans (KeepCells.putObj (by rintro p (h | h | h) <;> omega)) (Below.refl _ _) (fun _ => rfl)
    (fun pre W => (W.cell? ⟨w.heap.size, 0, none⟩ = some (.int .u64 ((numL (pre.map Fin.val) : Nat) : Int)) ∧ W.frozen? ⟨w.heap.size, 0, none⟩ = false) ∧ Below w.heap.size w W)
    (fun _ _ _ => False)
    (OwnFrom.and (Own.from (fun s A B row hs hg hr => ⟨cell_kept hs.1 hg hr, (frozen_kept hs.1 hg hr).trans hs.2⟩) _) (ownFrom_below (Nat.le_refl _) (by omega)))
    (fun _ _ _ _ _ hs _ _ => hs)
    ⟨⟨c0, f0⟩, hB0⟩
    (fun x => { tmps := #[.slice A l.length c, .int .i64 a, .int .i64 z, undef, undef, undef, .int .u64 0, .pointer (some ⟨w.heap.size, 0, none⟩), .int .u64 ((x.val : Nat) : Int), .slice A l.length c, .int .i64 a, .int .i64 z,
      .func (.func 95) #[] #[.pointer (some ⟨w.heap.size + 1 + 1, 0, none⟩), .pointer (some ⟨w.heap.size + 1 + 1 + 1, 0, none⟩), .pointer (some ⟨w.heap.size + 1, 0, none⟩)], .int .u64 ((x.val : Nat) : Int), undef, undef, undef, undef, undef], defers := [] }) ?assign ?body ?done ?stop
  case assign =>
    intro y x W K hK
    gi_wp2
    exact hK
  case body =>
    rintro y pre x W ⟨⟨hc, hf⟩, hB⟩ _
    have hv := numL_lt (pre.map Fin.val)
    have HO := Lib.hid (or_num (numL (pre.map Fin.val)) x hv)
    have HS : Hid (numL ((pre ++ [x]).map Fin.val) = (2 * numL (pre.map Fin.val) + x.val) % 18446744073709551616) := by show _ = _; rw [List.map_append]; exact numL_snoc _ _
    generalize numL (pre.map Fin.val) = v at *
    clear c0 c1 c2 c3 f0 hB0 hsz
    gi_wp2
    refine ⟨KeepsOthers.setCell _ _ _, ?_, ⟨?_, ?_⟩, ?_⟩
    · intro p hp
      exact World.cell?_setCell_other _ _ _ _ (by rintro rfl; rcases hp with h | h | h <;> (simp at h; try omega))
    · rw [HS.out, ← HO.out]; exact World.cell?_setCell_same' _ _ _ (by rw [hc]; rfl)
    · rw [World.frozen?_setCell]; exact hf
    · exact hB.setCell (p := ⟨w.heap.size, 0, none⟩) (Nat.le_refl _) _
  case done =>
    rintro D ys W hD hys ⟨⟨hc, _⟩, hB⟩ hK
    have HN : Hid (numL (ys.map Fin.val) = M.num l a (z - a)) := by show _ = _; rw [hys, num_eq]
    clear hys c0 c1 c2 c3 f0 hB0
    have HZ := Lib.hid hsz; clear hsz
    gi_wp2
    refine ⟨by simp, .inl ⟨_, _, rfl, run_takeDeferred hK, ?_⟩⟩
    refine ⟨_, results_tmp rfl _ _ _, ?_, hB.trans (belowK_b (w := w) (Nat.le_refl _) W D _ _ (by have := HZ.out; omega) hK rfl rfl)⟩
    rw [← HN.out]; rfl
  case stop =>
    rintro D c pre W _ _ h _
    exact h.elim
end Go.Proofs.YtflghlmikpfnpaaDoor
