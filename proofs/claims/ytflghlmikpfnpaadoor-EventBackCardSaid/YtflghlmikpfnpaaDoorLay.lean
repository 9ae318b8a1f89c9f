/-
  lay: the bytes with a number's w lowest bits behind them.
-/
import Derived.Test.YtflghlmikpfnpaaDoorNumber
import Derived.IntWalk
import Derived.Test.YtflghlmikpfnpaaDoorBridge
import Derived.Deep.OwnRows
import Derived.Laws.CopyOwn
import Derived.Laws.IdiomCopy
namespace Go.Proofs.YtflghlmikpfnpaaDoor
open Go.RowKit Go.Shelf
attribute [local go_sem] Oper.semAt_some

/-- Bytes as cells. -/
def cellsB (l : List Nat) : List Value := l.map fun x : Nat => Value.int .u8 (x : Int)
theorem cellsB_length (l : List Nat) : (cellsB l).length = l.length := by simp [cellsB]
theorem cellsB_get (l : List Nat) (j : Nat) (hj : j < l.length) : (cellsB l)[j]? = some (.int .u8 ((l[j]?.getD 0 : Nat) : Int)) := by simp [cellsB, hj]
/-- Block g is just these cells. -/
def Blok (w : World) (g : Nat) (t : TypeId) (cs : List Value) : Prop := w.heap[g]? = some (.cells cs.toArray t (0, 0))
section
variable {w w' : World} {g : Nat} {t : TypeId} {cs : List Value}
theorem Blok.lt (h : Blok w g t cs) : g < w.heap.size := (Array.getElem?_eq_some_iff.1 h).1
theorem Blok.cell (h : Blok w g t cs) (i : Nat) : w.cell? ⟨g, i, none⟩ = cs[i]? := by rw [cell_of_row w g i cs.toArray t (0, 0) h]; simp
theorem Blok.frozen (h : Blok w g t cs) (i : Nat) : w.frozen? ⟨g, i, none⟩ = false := by simp [World.frozen?, show w.heap[g]? = _ from h]
theorem Blok.kept {row : Option Nat} (h : Blok w g t cs) (hg : w.grownBy w' row) (hne : some g ≠ row) : Blok w' g t cs := (hg.block g h.lt hne).trans h
theorem Blok.alloc (h : Blok w g t cs) (o : Obj) : Blok (w.alloc o) g t cs := (Below.heap_alloc w o g h.lt).trans h
theorem Blok.store (h : Blok w g t cs) (i : Nat) (u : Value) : Blok (w.setCell ⟨g, i, none⟩ u) g t (cs.set i u) := by
  unfold Blok at h ⊢
  simp [World.setCell, Array.getElem?_modify, h]
theorem Blok.far (h : Blok w g t cs) {p : Addr} (hp : g ≠ p.block) (u : Value) : Blok (w.setCell p u) g t cs := (Below.heap_setCell w p u g hp).trans h
theorem Blok.below {B : Nat} (h : Blok w g t cs) (hb : Below B w w') (hg : g < B) : Blok w' g t cs := (hb.block g hg).trans h
theorem Blok.new (w : World) (t : TypeId) (cs : List Value) : Blok (w.alloc (.cells cs.toArray t)) w.heap.size t cs := World.alloc_heap_new w _
end
/-- 'The block holds f s' speaks of cells alone. -/
theorem blok_own {β : Type} (g : Nat) (t : TypeId) (f : β → List Value) : Own (fun s W => Blok W g t (f s)) := fun s X Y row hs hg hrow =>
  hs.kept hg (fun e' => by obtain ⟨o, ho, hc⟩ := hrow g e'.symm; rw [show X.heap[g]? = _ from hs] at ho; cases ho; cases hc)
theorem boxed_far {W : World} {B : Nat} {t : TypeId} {v : Value} (h : Boxed W B t v) {p : Addr} (hp : B ≠ p.block) (u : Value) : Boxed (W.setCell p u) B t v := (Below.heap_setCell W p u B hp).trans h
theorem boxed_below {W W' : World} {B N : Nat} {t : TypeId} {v : Value} (h : Boxed W B t v) (hb : Below N W W') (hg : B < N) : Boxed W' B t v := (hb.block B hg).trans h
theorem Blok.row {w : World} {g B : Nat} {l : List Nat} (h : Blok w g 5 (cellsB l)) (hl : ∀ x ∈ l, x < 256) (hB : g < B) : Row w B (some ⟨g, 0, none⟩) l :=
  ⟨hl, fun _ => ⟨g, 0, rfl, hB, fun j hj => by rw [Nat.zero_add, h.cell, cellsB_get l j hj]⟩⟩

theorem made_zero (K : Nat) : madeCells #[Value.int .u8 0] K = (cellsB (List.replicate K 0)).toArray := by
  apply Array.ext
  · simp [madeCells, cellsB]
  · intro i h1 h2; simp [madeCells, cellsB, Nat.mod_one]
theorem info5 : (Tryd.prog.info? 5).map (fun i => (i.zero, i.size, i.bytes)) = some (some (.int .u8 0), 1, 1) := by kernel_rfl
theorem size5 : (Tryd.prog.info? 5).map (·.size) = some 1 := by kernel_rfl

theorem oneCell_cellsB (l : List Nat) : ∀ v ∈ cellsB l, v.oneCell' = true := by
  intro v hv; simp only [cellsB, List.mem_map] at hv; obtain ⟨x, _, rfl⟩ := hv; rfl

/-- copy(out, b), out just made with K bytes, b no longer. -/
theorem copy_made (A : Option Addr) (c : Nat) (l : List Nat) (K : Nat) (ty : TypeId) (w : World) (G : Nat) (hG : Blok w G 5 (cellsB (List.replicate K 0))) (B : Nat) (hr : Row w B A l) (hlK : l.length ≤ K) :
    ∃ W2, (Builtin.copy_ #[38, 38] ty #[.slice (some ⟨G, 0, none⟩) K K, .slice A l.length c]).run Tryd.prog w = .ok (goInt l.length) W2 ∧ Blok W2 G 5 (cellsB (M.pad l K)) ∧ w.grownBy W2 (some G) ∧ W2.heap.size = w.heap.size := by
  by_cases h0 : l.length = 0
  · refine ⟨w, ?_, ?_, World.grownBy.refl w _, rfl⟩
    · rw [h0]; exact run_copy_none w 38 38 ty 5 _ _ K K 0 c Tryd.underlying38 size5 (by simp)
    · obtain rfl : l = [] := List.eq_nil_of_length_eq_zero h0
      simpa [M.pad] using hG
  · obtain ⟨b, off, rfl, hb, hc⟩ := hr.2 (by omega)
    have hrun := run_copy_row (P := Tryd.prog) w 38 38 ty 5 G 0 K K ⟨b, off, none⟩ l.length c (cellsB (List.replicate K 0)).toArray 5 (cellsB l) Tryd.underlying38 size5 hG
      (by rw [cellsB_length]; exact (Nat.min_eq_left hlK).symm)
      (fun j v hv => by
        have hj : j < l.length := by
          have := (List.getElem?_eq_some_iff.1 hv).1; rwa [cellsB_length] at this
        rw [cellsB_get l j hj] at hv
        injection hv with hv
        rw [← hv]
        unfold Addr.add; split
        · rename_i h; subst h; exact hc 0 hj
        · exact hc j hj)
      (by simp [cellsB]; omega) (oneCell_cellsB l)
    rw [cellsB_length] at hrun
    refine ⟨_, hrun, ?_, ?_, ?_⟩
    · have e : (cellsB (List.replicate K 0)).toArray.toList.take 0 ++ cellsB l ++ (cellsB (List.replicate K 0)).toArray.toList.drop (0 + l.length) = cellsB (M.pad l K) := by
        simp [cellsB, M.pad, List.drop_replicate]
      rw [e]
      exact setRow_heap w G _ _ 5 _ hG
    · exact ⟨rfl, rfl, rfl, by simp [World.setRow], fun k _ hk => setRow_other w G k _ (fun e => hk (by rw [e]))⟩
    · simp [World.setRow]

theorem or_cell (u b s : Nat) (hu : u < 256) (hb : b < 2) (hs : s < 8) : bits .or .u8 (u : Int) ((b : Int) * 2 ^ s % 256) = ((u ||| b * 2 ^ s : Nat) : Int) := by
  have h1 : b * 2 ^ s < 256 := by
    have : 2 ^ s ≤ 2 ^ 7 := Nat.pow_le_pow_right (by decide) (by omega)
    have h2 : b * 2 ^ s ≤ 1 * 2 ^ 7 := Nat.mul_le_mul (by omega) this
    omega
  have e : (b : Int) * 2 ^ s % 256 = ((b * 2 ^ s : Nat) : Int) := by
    rw [show (b : Int) * 2 ^ s = ((b * 2 ^ s : Nat) : Int) by simp]; omega
  rw [e, u8_or_nat _ _ hu h1]
theorem cellsB_orBit (L : List Nat) (i b q s u : Nat) (hq : i / 8 = q) (hs : 7 - i % 8 = s) (hu : L[i / 8]?.getD 0 = u) : (cellsB L).set q (.int .u8 ((u ||| b * 2 ^ s : Nat) : Int)) = cellsB (M.orBit L i b) := by
  unfold M.orBit cellsB
  rw [hu, hq, hs, List.map_set]

theorem bytesFor_k (n : Int) (K : Nat) (w : World) (h0 : 0 ≤ n) (h1 : n < 9223372036854775808) (hK : Hid ((n + 7) / 8 = (K : Int))) :
    Calls Tryd.prog 80 #[.int .i64 n] w fun e w' => e = .returned (.int .i64 K) ∧ w = w' :=
  (bytesFor_any n w h0 h1).mono fun _ _ ⟨he, hw⟩ => ⟨by rw [he, hK.out], hw⟩

set_option maxRecDepth 100000 in
set_option maxHeartbeats 2000000 in
theorem lay_in (A : Option Addr) (c : Nat) (l : List Nat) (n v m K : Nat) (w : World) (hr : Row w w.heap.size A l) (hlen : l.length = (n + 7) / 8) (hl : l.length ≤ 140737488355328) (hv : v < 18446744073709551616) (hm : m ≤ 200) (hK : K = (n + m + 7) / 8) :
    CallsIn Fence.wide 10 Tryd.prog 81 #[.slice A l.length c, .int .i64 n, .int .u64 v, .int .i64 m] w fun e W' =>
      e = .returned (.tuple #[.slice (some ⟨w.heap.size, 0, none⟩) K K, .int .i64 ((n + m : Nat) : Int)]) ∧ Blok W' w.heap.size 5 (cellsB (M.putL l n (M.digs v m))) ∧ Below w.heap.size w W' := by
  have hro : Fence.wide.round = none := rfl
  have HK : Hid (((n : Int) + m + 7) / 8 = (K : Int)) := by show _ = _; omega
  have hmk := fun (W : World) => run_make_row' (P := Tryd.prog) 38 5 (.int .u8 0) 1 Tryd.underlying38 info5 rfl .i64 .i64 K (by omega) (by omega) W
  simp only [made_zero] at hmk
  have hW1 : Below w.heap.size w ((w.alloc (.cells (cellsB (List.replicate K 0)).toArray 5)).alloc (.cells #[.slice (some ⟨w.heap.size, 0, none⟩) K K] 38)) := ((Below.refl _ w).alloc (Nat.le_refl _) _).alloc (by simp) _
  obtain ⟨W2, hcp, hblk, hgr, hsz⟩ := copy_made A c l K 3 _ w.heap.size ((Blok.new w 5 (cellsB (List.replicate K 0))).alloc (.cells #[.slice (some ⟨w.heap.size, 0, none⟩) K K] 38)) w.heap.size (hr.below hW1) (by omega)
  have hbox : Boxed W2 (w.heap.size + 1) 38 (.slice (some ⟨w.heap.size, 0, none⟩) K K) := by
    have := Boxed.new (w.alloc (.cells (cellsB (List.replicate K 0)).toArray 5)) 38 (.slice (some ⟨w.heap.size, 0, none⟩) K K)
    rw [World.size_alloc] at this
    exact this.kept hgr (by simp)
  have hB2 : Below w.heap.size w W2 := hW1.grown hgr (by simp; omega) (by rintro j e; cases e; exact Nat.le_refl _)
  rw [World.size_alloc, World.size_alloc] at hsz
  have HS := Lib.hid hsz
  have hl256 := hr.1
  clear hsz hW1 hgr hr
  have HKE := Lib.hid hK
  have HLE := Lib.hid hlen
  have hn2 : n ≤ 1125899906842624 := by omega
  have hK2 : K ≤ 140737488355400 := by omega
  clear hK hlen
  refine callsIn_of_wp_marks Tryd.func81 rfl trivial ?_ hro
  simp only [Tryd.ntmps81, List.size_toArray, List.length_cons, List.length_nil, Nat.reduceAdd, Nat.reduceSub, Array.replicate_succ, Array.replicate_zero, List.push_toArray, List.append_toArray, List.nil_append, List.cons_append]
  gi_wp2_with (first | (refine ⟨trivial, ?_⟩; gi_at_call 80; refine (callsIn_wide.2 (bytesFor_k _ K _ (by omega) (by omega) HK)).mono ?_; rintro e w' ⟨rfl, rfl⟩) | (refine ⟨trivial, ?_⟩; gi_at_call 92; refine (digits_in Fence.wide 9 trivial hro _ _ _).mono ?_; rintro e w' ⟨rfl, rfl⟩))
  have hB0 : Below w.heap.size w (((W2.alloc (.cells #[.int .i64 n] 3)).alloc (.cells #[.int .u64 v] 51)).alloc (.cells #[.int .i64 m] 3)) :=
    ((hB2.alloc (by have := HS.out; omega) _).alloc (by have := HS.out; simp; omega) _).alloc (by have := HS.out; simp; omega) _
  have hblk0 := ((hblk.alloc (.cells #[.int .i64 n] 3)).alloc (.cells #[.int .u64 v] 51)).alloc (.cells #[.int .i64 m] 3)
  have hbox0 := ((Boxed.alloc hbox (.cells #[.int .i64 n] 3)).alloc (.cells #[.int .u64 v] 51)).alloc (.cells #[.int .i64 m] 3)
  have hat0 := ((Boxed.new W2 3 (.int .i64 n)).alloc (.cells #[.int .u64 v] 51)).alloc (.cells #[.int .i64 m] 3)
  have cv : (((W2.alloc (.cells #[.int .i64 n] 3)).alloc (.cells #[.int .u64 v] 51)).alloc (.cells #[.int .i64 m] 3)).cell? ⟨W2.heap.size + 1, 0, none⟩ = some (.int .u64 v) := by simp [go_sem]
  have cm : (((W2.alloc (.cells #[.int .i64 n] 3)).alloc (.cells #[.int .u64 v] 51)).alloc (.cells #[.int .i64 m] 3)).cell? ⟨W2.heap.size + 1 + 1, 0, none⟩ = some (.int .i64 m) := by simp [go_sem]
  have HZ : Hid ((((W2.alloc (.cells #[.int .i64 n] 3)).alloc (.cells #[.int .u64 v] 51)).alloc (.cells #[.int .i64 m] 3)).heap.size = W2.heap.size + 3) := by show _ = _; simp
  generalize (((W2.alloc (.cells #[.int .i64 n] 3)).alloc (.cells #[.int .u64 v] 51)).alloc (.cells #[.int .i64 m] 3)) = W0 at *
  refine wpIn_rangeFunc_ownF hro (by decide) (gf := 97) (lb := #[.pointer (some ⟨W2.heap.size + 1 + 1, 0, none⟩), .pointer (some ⟨W2.heap.size + 1, 0, none⟩)]) rfl trivial (enters_of Tryd.func97 (by kernel_rfl) rfl)
    (digits_stops Fence.wide 9 trivial hro (by decide) (W2.heap.size + 1 + 1) (W2.heap.size + 1) v m hv hm W0 (by have := HZ.out; omega) (by have := HZ.out; omega) cm cv) KeepCells.trans (KeepCells.putObj (by have := HZ.out; rintro p h; omega)) (Below.refl _ _) (fun _ => rfl)
    (fun pre W => (Boxed W (w.heap.size + 1) 38 (.slice (some ⟨w.heap.size, 0, none⟩) K K) ∧ Boxed W W2.heap.size 3 (.int .i64 ((n + pre.length : Nat) : Int)) ∧ Blok W w.heap.size 5 (cellsB (M.orBits (M.pad l K) n (pre.map Fin.val)))) ∧ Below w.heap.size w W)
    (fun _ _ _ => False)
    (OwnFrom.and (OwnFrom.and (Own.from (boxed_own _ _ (fun _ => _)) _) (OwnFrom.and (Own.from (boxed_own _ _ (fun pre : List (Fin 2) => _)) _) (Own.from (blok_own _ _ (fun pre : List (Fin 2) => _)) _))) (ownFrom_below (Nat.le_refl _) (by have := HZ.out; have := HS.out; omega)))
    (fun _ _ _ _ _ hs _ _ => hs)
    ⟨⟨hbox0, hat0, hblk0⟩, hB0⟩
    (fun x => { tmps := #[.slice A l.length c, .int .i64 n, .int .u64 v, .int .i64 m, undef, undef, undef, undef, .slice none 0 0, .int .i64 0, .pointer (some ⟨w.heap.size + 1, 0, none⟩), .pointer (some ⟨W2.heap.size, 0, none⟩), .int .u8 ((x.val : Nat) : Int), .int .i64 n, .int .i64 m, .int .i64 ((n : Int) + m), .int .i64 K,
      .slice (some ⟨w.heap.size, 0, none⟩) K K, .slice (some ⟨w.heap.size, 0, none⟩) K K, .slice A l.length c, .int .i64 l.length, .int .i64 n, .int .u64 v, .int .i64 m,
      .func (.func 97) #[] #[.pointer (some ⟨W2.heap.size + 1 + 1, 0, none⟩), .pointer (some ⟨W2.heap.size + 1, 0, none⟩)], .int .u8 ((x.val : Nat) : Int), undef, undef, undef, undef, undef, undef, undef, undef, undef, undef, undef, undef, undef, undef, undef, undef], defers := [] }) ?assign ?body ?done ?stop
  case assign =>
    intro y x W K hK
    gi_wp2
    exact hK
  case body =>
    rintro y pre x W ⟨⟨b1, b2, b3⟩, hB⟩ hlt
    clear hblk0 hbox0 hat0 cv cm hB0 hcp hblk hbox hB2 hmk
    have HN : Hid (M.orBits (M.pad l K) n ((pre ++ [x]).map Fin.val) = M.orBit (M.orBits (M.pad l K) n (pre.map Fin.val)) (n + pre.length) x.val) := by
      show _ = _; rw [List.map_append]; exact (M.orBits_snoc _ _ _ _).trans (by rw [List.length_map])
    have HL : Hid ((M.orBits (M.pad l K) n (pre.map Fin.val)).length = K) := by
      show _ = _; rw [M.orBits_length, M.pad_length _ _ (by have := HKE.out; have := HLE.out; omega)]
    obtain ⟨i, hi⟩ : ∃ i, n + pre.length = i := ⟨_, rfl⟩
    have hi2 : (i : Nat) / 8 < K := by have := HKE.out; omega
    have hi3 : i ≤ 1125899906842924 := by omega
    have hc1 := b1.cell
    have hc2 := b2.cell
    have hf2 := b2.frozen
    have hc3 := (b3.cell (i / 8)).trans (cellsB_get _ _ (by rw [HL.out]; exact hi2))
    have hf3 := b3.frozen (i / 8)
    rw [hi] at hc2
    obtain ⟨u, hu⟩ : ∃ u, (M.orBits (M.pad l K) n (pre.map Fin.val))[i / 8]?.getD 0 = u := ⟨_, rfl⟩
    rw [hu] at hc3
    have HI := Lib.hid hi; clear hi
    have HU := Lib.hid hu; clear hu
    have HB1 := Lib.hid b1; clear b1
    have HB2 := Lib.hid b2; clear b2
    have HB3 := Lib.hid b3; clear b3
    have hmx : Tryd.prog.follows .mixedOrders = true := by kernel_rfl
    obtain ⟨q, hq⟩ : ∃ q, i / 8 = q := ⟨_, rfl⟩
    obtain ⟨r, hr8⟩ : ∃ r, i % 8 = r := ⟨_, rfl⟩
    obtain ⟨s, hs⟩ : ∃ s, 7 - r = s := ⟨_, rfl⟩
    have r1 : (i : Int).tdiv 8 = (q : Int) := by rw [Int.tdiv_eq_ediv_of_nonneg (by omega)]; omega
    have r2 : (i : Int).tmod 8 = (r : Int) := by rw [Int.tmod_eq_emod_of_nonneg (by omega)]; omega
    have r3 : (7 : Int) - (r : Int) = (s : Int) := by omega
    have r4 : IntKind.i64.wrap (q : Int) = (q : Int) := IntWalk.i64_in _ (by omega)
    have r5 : IntKind.i64.wrap (r : Int) = (r : Int) := IntWalk.i64_in _ (by omega)
    have r6 : IntKind.i64.wrap (s : Int) = (s : Int) := IntWalk.i64_in _ (by omega)
    have r7 : s < 8 := by omega
    rw [hq] at hc3 hf3 hi2
    have HQ := Lib.hid hq; clear hq
    have HR8 := Lib.hid hr8; clear hr8
    have HS8 := Lib.hid hs; clear hs
    have r8 : (q : Int) < (K : Int) := by omega
    have hca : ∀ v, (W.setCell ⟨w.heap.size, q, none⟩ v).cell? ⟨W2.heap.size, 0, none⟩ = some (.int .i64 i) := fun v =>
      (World.cell?_setCell_other _ _ _ _ (fun e => by have := HS.out; injection e; omega)).trans hc2
    dsimp only
    gi_wp2
    refine region_tail 12 hmx (by kernel_rfl) (by kernel_rfl) (fun _ _ h => h) ?_
    simp only [List.take_succ_cons, List.take_zero, List.drop_succ_cons, List.drop_zero]
    repeat still_step
    try refine wpStill_nil ?_
    go_wp2
    gi_wp2
    have hu256 : u < 256 := by
      have h := M.orBits_lt (M.pad l K) n (pre.map Fin.val) (M.pad_lt l K hl256) (fun b hb => by obtain ⟨f, _, rfl⟩ := List.mem_map.1 hb; exact f.2)
      have := HU.out
      rw [← this]
      rcases Nat.lt_or_ge (i / 8) (M.orBits (M.pad l K) n (pre.map Fin.val)).length with hj | hj
      · rw [List.getElem?_eq_getElem hj]; exact h _ (List.getElem_mem hj)
      · rw [List.getElem?_eq_none hj]; decide
    have hS2 := HS.out
    refine ⟨((KeepsOthers.setCell _ _ _).trans (KeepsOthers.setCell _ _ _)).trans (KeepsOthers.drew _), ?_, ⟨?_, ?_, ?_⟩, ?_⟩
    · intro p hp
      refine (World.cell?_setCell_other _ _ _ _ ?_).trans (World.cell?_setCell_other _ _ _ _ ?_)
      · rintro rfl; simp at hp
      · rintro rfl; simp at hp; omega
    · exact boxed_far (boxed_far HB1.out (p := ⟨w.heap.size, q, none⟩) (by simp) _) (p := ⟨W2.heap.size, 0, none⟩) (by simp; omega) _
    · have h := (boxed_far HB2.out (p := ⟨w.heap.size, q, none⟩) (by simp; omega) (Value.int IntKind.u8 (bits BinOp.or IntKind.u8 (↑u) (↑↑x * 2 ^ s % 256)))).set (.int .i64 ((i : Int) + 1))
      have e : ((n + (pre ++ [x]).length : Nat) : Int) = (i : Int) + 1 := by have := HI.out; simp; omega
      rw [e]; exact h
    · have h := (HB3.out.store q (Value.int IntKind.u8 (bits BinOp.or IntKind.u8 (↑u) (↑↑x * 2 ^ s % 256)))).far (p := ⟨W2.heap.size, 0, none⟩) (by simp; omega) (.int .i64 ((i : Int) + 1))
      rw [or_cell u x.val s hu256 x.2 r7, cellsB_orBit _ i x.val q s u HQ.out (by rw [HR8.out]; exact HS8.out) HU.out] at h
      rw [HN.out, HI.out, or_cell u x.val s hu256 x.2 r7]
      exact h
    · exact ((hB.setCell (p := ⟨w.heap.size, q, none⟩) (Nat.le_refl _) _).setCell (p := ⟨W2.heap.size, 0, none⟩) (by show _ ≤ W2.heap.size; omega) _).drew
  case done =>
    rintro D ys W hD hys ⟨⟨b1, b2, b3⟩, hB⟩ hK
    clear hblk0 hbox0 hat0 cv cm hB0 hcp hblk hbox hB2 hmk
    have hyl : ys.length = m := by
      have := congrArg List.length hys
      rwa [List.length_map, M.digs_length] at this
    rw [hys, HKE.out] at b3
    have e := M.lay_eq l n (M.digs v m) HLE.out
    rw [M.digs_length] at e
    rw [e] at b3
    rw [hyl] at b2
    have HB3 := Lib.hid b3; clear b3
    have hc1 := b1.cell
    have hc2 := b2.cell
    clear e hyl hys b1 b2
    have hmx : Tryd.prog.follows .mixedOrders = true := by kernel_rfl
    gi_wp2
    gi_region_o
    all_goals gi_wp2
    have hS2 := HS.out
    have hZ0 := HZ.out
    have hK' : W.drew.heap[D]? = some (.deferred (some [])) := hK
    refine ⟨by simp, .inl ⟨_, _, rfl, run_takeDeferred hK', ?_⟩⟩
    refine ⟨_, results_tmp2 rfl _ _ _, ?_, ?_, ?_⟩
    · rfl
    · exact (show Blok W.drew _ _ _ from HB3.out).kept (grownBy_putObj' _ D _) (fun e => by injection e with e; omega)
    · exact hB.drew.trans (belowK_b (w := w) (Nat.le_refl _) W.drew D _ _ (by omega) hK' rfl rfl)
  case stop =>
    rintro D c pre W _ _ h _
    exact h.elim
end Go.Proofs.YtflghlmikpfnpaaDoor
