/-
  layText.
-/
import Derived.Test.YtccjdajneoploaaPush
namespace Go.Proofs.Ytccjdajneoploaa
open Go.RowKit Go.Shelf
attribute [local go_sem] Oper.semAt_some

/-- The bytes at some places. -/
def at_ (s : ByteArray) (ys : List (Fin s.size)) : List Nat := ys.map fun x => (s[x.val]'x.2).toNat

theorem at_snoc (s : ByteArray) (ys : List (Fin s.size)) (x : Fin s.size) : at_ s (ys ++ [x]) = at_ s ys ++ [(s[x.val]'x.2).toNat] := by simp [at_]
theorem at_length (s : ByteArray) (ys : List (Fin s.size)) : (at_ s ys).length = ys.length := by simp [at_]
theorem at_get (s : ByteArray) (ys : List (Fin s.size)) : at_ s ys = ys.map fun x => (byt s)[x.val]?.getD 0 := by
  unfold at_
  refine List.map_congr_left fun x _ => ?_
  rw [byt_at s x.val x.2, Option.getD_some]
theorem at_range (s : ByteArray) (ys : List (Fin s.size)) (a m : Nat) (h : ys.map Fin.val = List.range' a m) (hm : a + m ≤ s.size) : at_ s ys = ((byt s).drop a).take m := by
  have e : at_ s ys = (ys.map Fin.val).map fun i => (byt s)[i]?.getD 0 := by rw [at_get, List.map_map]; rfl
  rw [e, h]
  apply List.ext_getElem?
  intro j
  rw [List.getElem?_map, List.getElem?_take, List.getElem?_drop]
  by_cases hj : j < m
  · rw [if_pos hj, List.getElem?_range' hj, Option.map_some, List.getElem?_eq_getElem (show a + j < (byt s).length by rw [byt_length]; omega)]
    simp
    rw [List.getElem?_eq_getElem (show a + j < (byt s).length by rw [byt_length]; omega)]
    simp
  · rw [if_neg hj, List.getElem?_eq_none (by simp; omega)]
    rfl

theorem two_grown {w : World} {base c : Nat} {A : Option Addr} {l : List Nat} (h : Gr w base A c l) (x y : Nat) (hx : x < 256) (hy : y < 256) (ty : TypeId) (hb : l.length ≤ 199999999999998) (hbase : base ≤ w.heap.size) :
    ∃ A' c' w', (Builtin.append_ #[42, 42] ty #[.slice A l.length c, .slice (some ⟨w.heap.size, 0, none⟩) 2 2]).run Try.prog (w.alloc (.cells #[.int .u8 (x : Int), .int .u8 (y : Int)] 5)) = .ok (.slice A' (l.length + 2) c') w' ∧ Gr w' base A' c' (l ++ [x, y]) ∧ Below base w w' ∧ KeepsOthers w w' := by
  obtain ⟨i0, hi, hz0, hz1, hz2⟩ := info_parts info5
  obtain ⟨v', w', hrun, ho, hg, hn⟩ := run_append_own_wide (P := Try.prog) (w.alloc (.cells #[.int .u8 (x : Int), .int .u8 (y : Int)] 5)) base 42 ty 5 i0 (.int .u8 0) 1 1 Try.underlying42 hi hz0 hz1 hz2 rfl (by decide) _ _ _ (h.alloc (.cells #[.int .u8 (x : Int), .int .u8 (y : Int)] 5)) _ 2 2 (cellsB [x, y]) (by simp [cellsB]) (row_cells (row_two w x y hx hy) _ rfl) (oneCell_cellsB [x, y]) (by unfold maxLen; omega) (by omega) (by simp; omega)
  obtain ⟨g', cap', rfl⟩ := ownsRow_succ (k := l.length + 1) ho
  refine ⟨_, _, w', hrun, ?_, ((Below.refl _ w).alloc hbase _).grown hg (by simp; omega) h.own, (KeepsOthers.alloc w _).trans (KeepsOthers.of_grownBy hg fun j o ej hj => ?_)⟩
  · unfold Gr
    rw [show cellsB (l ++ [x, y]) = cellsB l ++ cellsB [x, y] by simp [cellsB], show (l ++ [x, y]).length = l.length + 2 by simp]
    exact ho
  · rcases (h.alloc (.cells #[.int .u8 (x : Int), .int .u8 (y : Int)] 5)).cases with ⟨rfl, h2, rfl⟩ | ⟨g, rfl, hO⟩
    · simp [Value.ownBlock] at ej
    · obtain rfl : g = j := by simpa [Value.ownBlock] using ej
      obtain ⟨cur, _, hc2, _⟩ := hO.parts
      rw [hc2] at hj; cases hj; rfl

set_option maxRecDepth 100000 in
set_option maxHeartbeats 2000000 in
theorem layText_in (A : Option Addr) (c : Nat) (l : List Nat) (s : ByteArray) (base : Nat) (w : World) (hg : Gr w base A c l) (hbase : base ≤ w.heap.size) (hl : l.length ≤ 100000000000000) (hs : s.size ≤ 512) :
    CallsIn Fence.wide 10 Try.prog 21 #[.slice A l.length c, .string s] w (Lays (l ++ 2 :: (M.bod (byt s) ++ [0, 1])) base w) := by
  have hro : Fence.wide.round = none := rfl
  obtain ⟨A1, c1, w1, hrun, k1, k2, hv1, hg1, hp1⟩ := push (Boxed.new w 42 (.slice A l.length c)) (hg.alloc (.cells #[.slice A l.length c] 42)) (by simp; omega) hbase 2 (by decide) (by omega)
  simp only [World.size_alloc] at hrun
  have hB1 : Below base w (w1.setCell ⟨w.heap.size, 0, none⟩ (.slice A1 (l.length + 1) c1)) := ((Below.refl _ w).alloc hbase _).trans hp1.below
  have HRUN := Lib.hid hrun
  have HP1 := Lib.hid hp1
  have HV1 := Lib.hid hv1
  have HG1 := Lib.hid hg1
  have HG := Lib.hid hg
  clear hrun hp1 hv1 hg1 hg
  refine callsIn_of_wp_marks Try.func21 rfl trivial ?_ hro
  simp only [Try.ntmps21, List.size_toArray, List.length_cons, List.length_nil, Nat.reduceAdd, Nat.reduceSub, Array.replicate_succ, Array.replicate_zero, List.push_toArray, List.append_toArray, List.nil_append, List.cons_append]
  gi_wp2_with (first
    | (gi_at_builtin; refine wpListIn_append_run rfl _ _ _ _ rfl _ _ rfl rfl HRUN.out ?_)
    | (refine ⟨trivial, ?_⟩; gi_at_call 30; refine (bytesFrom_in Fence.wide 9 trivial hro _ _ _).mono ?_; rintro e w' ⟨rfl, rfl⟩))
  have hB0 : Below base w (((w1.setCell ⟨w.heap.size, 0, none⟩ (.slice A1 (l.length + 1) c1)).alloc (.cells #[.string s] 9)).alloc (.cells #[.int .i64 0] 3)) := (hB1.alloc (by have := hB1.size; omega) _).alloc (by have := hB1.size; simp at this ⊢; omega) _
  have hout0 : Outs base w.heap.size (l ++ [2]) (((w1.setCell ⟨w.heap.size, 0, none⟩ (.slice A1 (l.length + 1) c1)).alloc (.cells #[.string s] 9)).alloc (.cells #[.int .i64 0] 3)) := by
    obtain ⟨A', c', h1, h2⟩ := HP1.out.outs
    exact ⟨A', c', (h1.alloc _).alloc _, (h2.alloc _).alloc _⟩
  have hbs0 := (Boxed.new (w1.setCell ⟨w.heap.size, 0, none⟩ (.slice A1 (l.length + 1) c1)) 9 (.string s)).alloc (.cells #[.int .i64 0] 3)
  have hba0 := Boxed.new ((w1.setCell ⟨w.heap.size, 0, none⟩ (.slice A1 (l.length + 1) c1)).alloc (.cells #[.string s] 9)) 3 (.int .i64 0)
  have hsz : (((w1.setCell ⟨w.heap.size, 0, none⟩ (.slice A1 (l.length + 1) c1)).alloc (.cells #[.string s] 9)).alloc (.cells #[.int .i64 0] 3)).heap.size = w1.heap.size + 2 := by simp
  have hwsz : w.heap.size + 1 ≤ w1.heap.size := by have := HP1.out.below.size; simpa using this
  rw [show (w1.setCell ⟨w.heap.size, 0, none⟩ (.slice A1 (l.length + 1) c1)).heap.size = w1.heap.size by simp] at hbs0
  rw [show ((w1.setCell ⟨w.heap.size, 0, none⟩ (.slice A1 (l.length + 1) c1)).alloc (.cells #[.string s] 9)).heap.size = w1.heap.size + 1 by simp] at hba0
  generalize (((w1.setCell ⟨w.heap.size, 0, none⟩ (.slice A1 (l.length + 1) c1)).alloc (.cells #[.string s] 9)).alloc (.cells #[.int .i64 0] 3)) = W0 at *
  have HSZ := Lib.hid hsz
  have HWSZ := Lib.hid hwsz
  clear hsz hwsz
  refine wpIn_rangeFunc_ownF hro (by decide) (gf := 35) (lb := #[.pointer (some ⟨w1.heap.size + 1, 0, none⟩), .pointer (some ⟨w1.heap.size, 0, none⟩)]) rfl trivial (enters_of Try.func35 (by kernel_rfl) rfl)
    (bytes_stops Fence.wide 9 trivial hro (by decide) (w1.heap.size + 1) w1.heap.size 0 s.size s (by omega) (by omega) W0 (by have := HSZ.out; omega) (by have := HSZ.out; omega) hba0.cell hbs0.cell) KeepCells.trans (KeepCells.putObj (by have := HSZ.out; rintro p h; omega)) (Below.refl _ _) (fun _ => rfl)
    (fun pre W => (Outs base w.heap.size (l ++ 2 :: M.bod (at_ s pre)) W ∧ Boxed W w1.heap.size 9 (.string s)) ∧ Below base w W)
    (fun _ _ _ => False)
    (OwnFrom.and (OwnFrom.and (Own.from (outs_own _ _ (fun pre => _)) _) (Own.from (boxed_own _ _ (fun _ => _)) _)) (ownFrom_below hbase (by have := HSZ.out; have := HWSZ.out; omega)))
    (fun _ _ _ _ _ hs _ _ => hs)
    ⟨⟨hout0, hbs0⟩, hB0⟩
    (fun x => { tmps := #[.slice A l.length c, .string s, .pointer (some ⟨w.heap.size, 0, none⟩), undef, .slice none 0 0, undef, .int .u8 (((s[x.val]'x.2).toNat : Nat) : Int), .slice A l.length c, .slice (some ⟨w.heap.size + 1, 0, none⟩) 1 1, .slice A1 (l.length + 1) c1, .string s,
      .func (.func 35) #[] #[.pointer (some ⟨w1.heap.size + 1, 0, none⟩), .pointer (some ⟨w1.heap.size, 0, none⟩)], .int .i64 ((x.val : Nat) : Int), .int .u8 (((s[x.val]'x.2).toNat : Nat) : Int), undef, undef, undef, undef, undef, undef, undef, undef, undef, undef, undef, undef], defers := [] }) ?assign ?body ?done ?stop
  case assign =>
    intro y x W K hK
    unfold yv
    gi_wp2
    exact hK
  case body =>
    rintro y pre x W ⟨⟨⟨A2, c2, hv, hg⟩, hbs⟩, hB⟩ hlt
    clear hB0 hout0 hbs0 hba0 k1 k2 hB1
    have hxb : (s[x.val]'x.2).toNat < 256 := (s[x.val]'x.2).toNat_lt
    have HAT : Hid (at_ s (pre ++ [x]) = at_ s pre ++ [(s[x.val]'x.2).toNat]) := at_snoc s pre x
    generalize hxe : (s[x.val]'x.2).toNat = z at *
    obtain ⟨L, hL⟩ : ∃ L, l ++ 2 :: M.bod (at_ s pre) = L := ⟨_, rfl⟩
    rw [hL] at hv hg
    have hLl : L.length ≤ 100000000002000 := by
      rw [← hL]
      have h1 := M.bod_len (at_ s pre)
      rw [at_length] at h1
      simp; omega
    have hWs : base ≤ W.heap.size := Nat.le_trans hbase hB.size
    obtain ⟨A3, c3, w3, hrun3, cc3, cf3, hv3, hg3, hp3⟩ := push hv hg hWs hbase z hxb (by omega)
    have cv := hv.cell
    have HRUN3 := Lib.hid hrun3
    have HV3 := Lib.hid hv3
    have HG3 := Lib.hid hg3
    have HP3 := Lib.hid hp3
    have HBS := Lib.hid hbs
    have HL := Lib.hid hL
    clear hrun3 hv3 hg3 hp3 hbs hL hv hg hxe
    have hb3 := HV3.out.cell
    by_cases h0 : z = 0
    · subst h0
      obtain ⟨A4, c4, w4, hrun4, cc4, cf4, hv4, hg4, hp4⟩ := push (l := L ++ [0]) (by rw [List.length_append]; exact HV3.out) HG3.out (Nat.le_trans hWs HP3.out.below.size) hbase 255 (by decide) (by simp; omega)
      have e5 : (L ++ [0]).length = L.length + 1 := by simp
      rw [e5] at hrun4 cc4 hv4 hg4 hp4
      clear e5
      have e4 : (w3.setCell ⟨w.heap.size, 0, none⟩ (.slice A3 (L.length + 1) c3)).heap.size = w3.heap.size := by simp
      rw [e4] at hrun4
      have HRUN4 := Lib.hid hrun4
      have HP4 := Lib.hid hp4
      clear hrun4 hv4 hg4 hp4 e4
      gi_wp2_with (first
        | (gi_at_builtin; refine wpListIn_append_run rfl _ _ _ _ rfl _ _ rfl rfl HRUN3.out ?_; clear HRUN3)
        | (gi_at_builtin; refine wpListIn_append_run rfl _ _ _ _ rfl _ _ rfl rfl HRUN4.out ?_))
      have HN : Hid (L ++ [0] ++ [255] = l ++ 2 :: M.bod (at_ s (pre ++ [x]))) := by show _ = _; rw [HAT.out, M.bod_snoc, ← HL.out]; simp
      have hbox := HP4.out.boxes _ _ _ (by have := HWSZ.out; omega) (by decide) (HP3.out.boxes _ _ _ (by have := HWSZ.out; omega) (by decide) HBS.out)
      refine ⟨HP3.out.others.trans HP4.out.others, ?_, ⟨?_, hbox⟩, hB.trans (HP3.out.below.trans HP4.out.below)⟩
      · intro p hp
        exact World.cell?_of_block (by rw [show p.block = w1.heap.size from hp]; exact hbox.trans (show W.heap[_]? = _ from HBS.out).symm)
      · rw [← HN.out]; exact HP4.out.outs
    · have hz : ((z : Int) == 0) = false := by simp [h0]
      gi_wp2_with (gi_at_builtin; refine wpListIn_append_run rfl _ _ _ _ rfl _ _ rfl rfl HRUN3.out ?_; clear HRUN3)
      have HN : Hid (L ++ [z] = l ++ 2 :: M.bod (at_ s (pre ++ [x]))) := by show _ = _; rw [HAT.out, M.bod_snoc, ← HL.out]; simp [h0]
      have hbox := HP3.out.boxes _ _ _ (by have := HWSZ.out; omega) (by decide) HBS.out
      refine ⟨HP3.out.others, ?_, ⟨?_, hbox⟩, hB.trans HP3.out.below⟩
      · intro p hp
        exact World.cell?_of_block (by rw [show p.block = w1.heap.size from hp]; exact hbox.trans (show W.heap[_]? = _ from HBS.out).symm)
      · rw [← HN.out]; exact HP3.out.outs
  case done =>
    rintro D ys W hD hys ⟨⟨⟨A2, c2, hv, hg⟩, hbs⟩, hB⟩ hK
    clear hB0 hout0 hbs0 hba0 k1 k2 hB1
    have hat : at_ s ys = byt s := by
      rw [at_range s ys 0 s.size hys (by omega)]
      simp [List.take_of_length_le (show (byt s).length ≤ s.size by rw [byt_length]; omega)]
    rw [hat] at hv hg
    obtain ⟨L, hL⟩ : ∃ L, l ++ 2 :: M.bod (byt s) = L := ⟨_, rfl⟩
    rw [hL] at hv hg
    have hLl : L.length ≤ 100000000002000 := by
      rw [← hL]
      have h1 := M.bod_len (byt s)
      rw [byt_length] at h1
      simp; omega
    have hWs : base ≤ W.heap.size := Nat.le_trans hbase hB.size
    obtain ⟨A3, c3, w3, hrun3, hg3, hb3, ho3⟩ := two_grown hg 0 1 (by decide) (by decide) 42 (by omega) hWs
    have cv := hv.cell
    have HRUN3 := Lib.hid hrun3
    have HG3 := Lib.hid hg3
    have HN : Hid (l ++ 2 :: (M.bod (byt s) ++ [0, 1]) = L ++ [0, 1]) := by show _ = _; rw [← hL]; simp
    clear hrun3 hg3 hbs hL hv hg hat hys
    gi_wp2_with (gi_at_builtin; refine wpListIn_append_run rfl _ _ _ _ rfl _ _ rfl rfl HRUN3.out ?_; clear HRUN3)
    have hK' : w3.heap[D]? = some (.deferred (some [])) := ho3.same D _ hK rfl
    have hZ0 := HSZ.out
    have hZ1 := HWSZ.out
    refine ⟨by simp, .inl ⟨_, _, rfl, run_takeDeferred hK', ?_⟩⟩
    refine ⟨_, results_tmp rfl _ _ _, A3, c3, ?_, ?_, ?_⟩
    · rw [HN.out, List.length_append]; rfl
    · rw [HN.out]; exact ownsRow_putObj HG3.out (.deferred none) hK' rfl
    · exact (hB.trans hb3).trans (belowK_b (w := w) hbase w3 D _ _ (by omega) hK' rfl rfl)
  case stop =>
    rintro D c pre W _ _ h _
    exact h.elim

theorem layText_any (A : Option Addr) (c : Nat) (l : List Nat) (s : ByteArray) (base : Nat) (w : World) (hg : Gr w base A c l) (hbase : base ≤ w.heap.size) (hl : l.length ≤ 100000000000000) (hs : s.size ≤ 512) :
    Calls Try.prog 21 #[.slice A l.length c, .string s] w (Lays (l ++ 2 :: (M.bod (byt s) ++ [0, 1])) base w) := callsIn_wide.1 (layText_in A c l s base w hg hbase hl hs)
end Go.Proofs.Ytccjdajneoploaa
