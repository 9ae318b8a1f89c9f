/-
  Bytes of the call's own: blocks, growing slices, strings.
-/
import Derived.Test.YtadcmljcbmfcaaaWLeaf
import Derived.IntWalk
import Derived.Deep.OwnRows
import Derived.Deep.DeepAppendWide
import Derived.Laws.CopyOwn
import Derived.Laws.OwnMore
import Derived.Lib.AppendStr
import Derived.Room.AppendFits
import Derived.StillTailTactics
import Derived.Deep.RegionWith
import Derived.Lib.ConvBytes
namespace Go.Proofs.Ytadcmljcbmfcaaa.Wi
open Go.RowKit

/-- Bytes as cells. -/
def cellsB (l : List Nat) : List Value := l.map fun x : Nat => Value.int .u8 (x : Int)
theorem cellsB_length (l : List Nat) : (cellsB l).length = l.length := by simp [cellsB]
theorem cellsB_get (l : List Nat) (j : Nat) (hj : j < l.length) : (cellsB l)[j]? = some (.int .u8 ((l[j]?.getD 0 : Nat) : Int)) := by simp [cellsB, hj]
/-- Block g is just these cells. -/
def Blok (w : World) (g : Nat) (t : TypeId) (cs : List Value) : Prop := w.heap[g]? = some (.cells cs.toArray t (0, 0))
section
variable {w w' : World} {g : Nat} {t : TypeId} {cs : List Value}
theorem Blok.lt (h : Blok w g t cs) : g < w.heap.size := (Array.getElem?_eq_some_iff.1 h).1
theorem Blok.cell (h : Blok w g t cs) (i : Nat) : w.cell? ⟨g, i, none⟩ = cs[i]? := by rw [cell_of_row w g i cs.toArray t (0, 0) h]; simp
theorem Blok.frozen (h : Blok w g t cs) (i : Nat) : w.frozen? ⟨g, i, none⟩ = false := by simp [World.frozen?, show w.heap[g]? = _ from h]
theorem Blok.kept {row : Option Nat} (h : Blok w g t cs) (hg : w.grownBy w' row) (hne : some g ≠ row) : Blok w' g t cs := (hg.block g h.lt hne).trans h
theorem Blok.alloc (h : Blok w g t cs) (o : Obj) : Blok (w.alloc o) g t cs := (Below.heap_alloc w o g h.lt).trans h
theorem Blok.store (h : Blok w g t cs) (i : Nat) (u : Value) : Blok (w.setCell ⟨g, i, none⟩ u) g t (cs.set i u) := by
  unfold Blok at h ⊢
  simp [World.setCell, Array.getElem?_modify, h]
theorem Blok.far (h : Blok w g t cs) {p : Addr} (hp : g ≠ p.block) (u : Value) : Blok (w.setCell p u) g t cs := (Below.heap_setCell w p u g hp).trans h
theorem Blok.below {B : Nat} (h : Blok w g t cs) (hb : Below B w w') (hg : g < B) : Blok w' g t cs := (hb.block g hg).trans h
theorem Blok.new (w : World) (t : TypeId) (cs : List Value) : Blok (w.alloc (.cells cs.toArray t)) w.heap.size t cs := heap_alloc_new w _
end
theorem Blok.row {w : World} {g B : Nat} {l : List Nat} (h : Blok w g 5 (cellsB l)) (hl : ∀ x ∈ l, x < 256) (hB : g < B) : Row w B (some ⟨g, 0, none⟩) l :=
  ⟨hl, fun _ => ⟨g, 0, rfl, hB, fun j hj => by rw [Nat.zero_add, h.cell, cellsB_get l j hj]⟩⟩
theorem made_zero (K : Nat) : madeCells #[Value.int .u8 0] K = (cellsB (List.replicate K 0)).toArray := by
  apply Array.ext
  · simp [madeCells, cellsB]
  · intro i h1 h2; simp [madeCells, cellsB, Nat.mod_one]
theorem info5 : (Try.prog.info? 5).map (fun i => (i.zero, i.size, i.bytes)) = some (some (.int .u8 0), 1, 1) := by kernel_rfl
theorem oneCell_cellsB (l : List Nat) : ∀ v ∈ cellsB l, v.oneCell' = true := by
  intro v hv; simp only [cellsB, List.mem_map] at hv; obtain ⟨x, _, rfl⟩ := hv; rfl

/-- A slice of the call's own that holds l. -/
def OwnB (w : World) (base g cap : Nat) (l : List Nat) : Prop := w.ownsRow base 5 1 (.slice (some ⟨g, 0, none⟩) l.length cap) l.length (cellsB l)
theorem OwnB.parts {w : World} {base g cap : Nat} {l : List Nat} (h : OwnB w base g cap l) : ∃ cur, base ≤ g ∧ w.heap[g]? = some (.cells cur 5 (0, 0)) ∧ l.length ≤ cap ∧ cap ≤ maxLen ∧ cur.size = cap ∧ cur.toList.take l.length = cellsB l := by
  rcases h.2 with ⟨h, _⟩ | ⟨g', cap', cur, e, hb, hc, h1, h2, h3, h4⟩
  · cases h
  · injection e with e1 e2 e3
    injection e1 with e1
    injection e1 with e1
    subst e1; subst e3
    exact ⟨cur, hb, hc, h1, h2, by simpa using h3, by simpa using h4⟩
theorem OwnB.of {w : World} {base g cap : Nat} {l : List Nat} (cur : Array Value) (hb : base ≤ g) (hc : w.heap[g]? = some (.cells cur 5 (0, 0))) (h1 : l.length ≤ cap) (h2 : cap ≤ maxLen) (h3 : cur.size = cap) (h4 : cur.toList.take l.length = cellsB l) : OwnB w base g cap l :=
  ⟨by rw [cellsB_length, Nat.mul_one], .inr ⟨g, cap, cur, rfl, hb, hc, h1, h2, by simpa using h3, by simpa using h4⟩⟩
theorem OwnB.lt {w : World} {base g cap : Nat} {l : List Nat} (h : OwnB w base g cap l) : base ≤ g ∧ g < w.heap.size := by
  obtain ⟨cur, hb, hc, _⟩ := h.parts
  exact ⟨hb, (Array.getElem?_eq_some_iff.1 hc).1⟩
theorem OwnB.cell {w : World} {base g cap : Nat} {l : List Nat} (h : OwnB w base g cap l) (j : Nat) (hj : j < l.length) : w.cell? ⟨g, j, none⟩ = some (.int .u8 ((l[j]?.getD 0 : Nat) : Int)) := by
  obtain ⟨cur, hb, hc, h1, h2, h3, h4⟩ := h.parts
  rw [cell_of_row w g j cur 5 (0, 0) hc, ← cellsB_get l j hj, ← h4, List.getElem?_take, if_pos hj]
  simp
theorem OwnB.row {w : World} {base g cap B : Nat} {l : List Nat} (h : OwnB w base g cap l) (hl : ∀ x ∈ l, x < 256) (hB : g < B) : Row w B (some ⟨g, 0, none⟩) l :=
  ⟨hl, fun _ => ⟨g, 0, rfl, hB, fun j hj => by rw [Nat.zero_add]; exact h.cell j hj⟩⟩
theorem OwnB.kept {w w' : World} {base g cap : Nat} {l : List Nat} {row : Option Nat} (h : OwnB w base g cap l) (hg : w.grownBy w' row) (hne : some g ≠ row) : OwnB w' base g cap l := by
  obtain ⟨cur, hb, hc, h1, h2, h3, h4⟩ := h.parts
  exact OwnB.of cur hb ((hg.block g h.lt.2 hne).trans hc) h1 h2 h3 h4
theorem OwnB.alloc {w : World} {base g cap : Nat} {l : List Nat} (h : OwnB w base g cap l) (o : Obj) : OwnB (w.alloc o) base g cap l := h.kept (World.grownBy_alloc w o none) (by simp)
theorem OwnB.lower {w : World} {base base' g cap : Nat} {l : List Nat} (h : OwnB w base g cap l) (hb : base' ≤ base) : OwnB w base' g cap l := by
  obtain ⟨cur, h0, hc, h1, h2, h3, h4⟩ := h.parts
  exact OwnB.of cur (by omega) hc h1 h2 h3 h4
theorem OwnB.below {w w' : World} {base g cap B : Nat} {l : List Nat} (h : OwnB w base g cap l) (hb : Below B w w') (hg : g < B) : OwnB w' base g cap l := by
  obtain ⟨cur, h0, hc, h1, h2, h3, h4⟩ := h.parts
  exact OwnB.of cur h0 ((hb.block g hg).trans hc) h1 h2 h3 h4

theorem row_cells {w : World} {B : Nat} {A : Option Addr} {x : List Nat} (hr : Row w B A x) : ∀ ad, A = some ad → ∀ j u, (cellsB x)[j]? = some u → w.cell? (ad.add j) = some u := by
  rintro ad rfl j u hu
  have hj : j < x.length := by have := (List.getElem?_eq_some_iff.1 hu).1; rwa [cellsB_length] at this
  obtain ⟨b, off, e, _, hc⟩ := hr.2 (by omega)
  injection e with e
  subst e
  rw [cellsB_get x j hj] at hu
  injection hu with hu
  rw [← hu]
  unfold Addr.add; split
  · rename_i h; subst h; exact hc 0 hj
  · exact hc j hj
theorem row_none {w : World} {B : Nat} {x : List Nat} (hr : Row w B none x) : x = [] := by
  rcases Nat.eq_zero_or_pos x.length with h0 | h0
  · exact List.eq_nil_of_length_eq_zero h0
  · obtain ⟨b, off, e, _⟩ := hr.2 h0; cases e
theorem own_app {w : World} {base g cap : Nat} {l : List Nat} {x : List Nat} (h : w.ownsRow base 5 1 (.slice (some ⟨g, 0, none⟩) (l.length + x.length) cap) (l.length + x.length) (cellsB l ++ cellsB x)) : OwnB w base g cap (l ++ x) := by
  unfold OwnB
  rw [List.length_append, show cellsB (l ++ x) = cellsB l ++ cellsB x by simp [cellsB]]
  exact h

/-- append(out, x...) where there is room. -/
theorem OwnB.fits {w : World} {base g cap : Nat} {l : List Nat} (h : OwnB w base g cap l) (A : Option Addr) (c : Nat) (x : List Nat) (B : Nat) (hr : Row w B A x) (ty : TypeId) (hb : l.length + x.length ≤ cap) :
    ∃ w', (Builtin.append_ #[43, 43] ty #[.slice (some ⟨g, 0, none⟩) l.length cap, .slice A x.length c]).run Try.prog w = .ok (.slice (some ⟨g, 0, none⟩) (l.length + x.length) cap) w' ∧ OwnB w' base g cap (l ++ x) ∧ w.grownBy w' (some g) := by
  obtain ⟨i0, hi, hz0, hz1, hz2⟩ := info_parts info5
  cases A with
  | none =>
    obtain rfl := row_none hr
    refine ⟨w, ?_, by rw [List.append_nil]; exact h, World.grownBy.refl w _⟩
    obtain ⟨cur, _, hc, h1, _⟩ := h.parts
    simp [Builtin.append_, run_underlying Try.underlying43, sizeOf, typeInfo, hi, Builtin.lenOf, Builtin.firstCells, h1, storeCells]
  | some ad =>
    obtain ⟨w', hrun, ho, hg⟩ := run_append_fits (P := Try.prog) w base 43 ty 5 i0 1 Try.underlying43 hi hz1 g l.length cap _ h ad x.length c (cellsB x) (by rw [cellsB_length, Nat.mul_one]) (row_cells hr ad rfl) (oneCell_cellsB x) hb
    exact ⟨w', hrun, own_app ho, hg⟩
/-- append(out, x...). -/
theorem OwnB.append {w : World} {base g cap : Nat} {l : List Nat} (h : OwnB w base g cap l) (A : Option Addr) (c : Nat) (x : List Nat) (B : Nat) (hr : Row w B A x) (ty : TypeId) (hb : l.length + x.length ≤ 200000000000000) (hbase : base ≤ w.heap.size) :
    ∃ g' cap' w', (Builtin.append_ #[43, 43] ty #[.slice (some ⟨g, 0, none⟩) l.length cap, .slice A x.length c]).run Try.prog w = .ok (.slice (some ⟨g', 0, none⟩) (l.length + x.length) cap') w' ∧ OwnB w' base g' cap' (l ++ x) ∧ w.grownBy w' (some g) := by
  obtain ⟨i0, hi, hz0, hz1, hz2⟩ := info_parts info5
  cases A with
  | none =>
    obtain ⟨w', h1, h2, h3⟩ := h.fits none c x B hr ty (by
      obtain rfl := row_none hr
      obtain ⟨cur, _, hc, h1, _⟩ := h.parts
      simpa using h1)
    exact ⟨g, cap, w', h1, h2, h3⟩
  | some ad =>
    obtain ⟨v', w', hrun, ho, hg, hn⟩ := run_append_own_wide (P := Try.prog) w base 43 ty 5 i0 (.int .u8 0) 1 1 Try.underlying43 hi hz0 hz1 hz2 rfl (by decide) _ _ _ h ad x.length c (cellsB x) (by rw [cellsB_length, Nat.mul_one]) (row_cells hr ad rfl) (oneCell_cellsB x) (by unfold maxLen; omega) (by omega) hbase
    rcases ho.2 with ⟨e, _⟩ | ⟨g', cap', cur, e, _⟩
    · have := (hn.1 e).1; cases this
    · rw [e] at ho hrun
      exact ⟨g', cap', w', hrun, own_app ho, hg⟩

/-- An append whose run is known. -/
theorem wpList_append_run {P : Program} {w w' : World} {v' : Value} {ops : Array Oper} {rest : List Oper} {o : Oper} {a : Act} {Q : Exit → Act → World → Prop} (hgd : o.guard = none) (s x : Operand) (t u : TypeId)
    (ho : o.op = .call { callee := .builtin .append, args := #[s, x], argTypes := #[t, u] }) (vs vx : Value) (hs : a.eval s = vs) (hx : a.eval x = vx) (hrun : (Builtin.append_ #[t, u] o.type #[vs, vx]).run P w = .ok v' w')
    (h : wpList P ops Q rest (a.put o.dst v') w') : wpList P ops Q (o :: rest) a w :=
  wpList_plain hgd fun _ hK => by
    unfold Oper.wp execOp
    simp only [ho, resolve, invoke, builtin, Sem.run_bind, Sem.run_pure, Result.andThen_ok, List.map_toArray, List.map_cons, List.map_nil, hs, hx, hrun]
    exact hK _ _ h

/-- Bytes as a string, a string's bytes. -/
def strB (l : List Nat) : ByteArray := ⟨(l.map fun x : Nat => UInt8.ofNat x).toArray⟩
def byt (s : ByteArray) : List Nat := s.data.toList.map UInt8.toNat
theorem byt_lt (s : ByteArray) : ∀ x ∈ byt s, x < 256 := by
  intro x hx
  obtain ⟨u, _, rfl⟩ := List.mem_map.1 hx
  exact u.toNat_lt
theorem byt_length (s : ByteArray) : (byt s).length = s.size := by simp [byt]
theorem strB_size (l : List Nat) : (strB l).size = l.length := by simp [strB, ByteArray.size]
theorem byt_strB (l : List Nat) (h : ∀ x ∈ l, x < 256) : byt (strB l) = l := by
  unfold byt strB
  simp only [List.map_map]
  conv => rhs; rw [← List.map_id l]
  refine List.map_congr_left fun x hx => ?_
  have := h x hx
  simp [UInt8.toNat_ofNat', Nat.mod_eq_of_lt this]
theorem strB_byt (s : ByteArray) : strB (byt s) = s := by
  unfold byt strB
  cases s with
  | mk d =>
    simp only [List.map_map]
    congr 1
    apply Array.ext'
    simp only
    conv => rhs; rw [← List.map_id d.toList]
    refine List.map_congr_left fun x _ => ?_
    simp
theorem byt_inj {s t : ByteArray} (h : byt s = byt t) : s = t := by rw [← strB_byt s, ← strB_byt t, h]
theorem run_str (A : Option Addr) (c : Nat) (l : List Nat) (w : World) (B : Nat) (hr : Row w B A l) : (convert 43 9 (.slice A l.length c)).run Try.prog w = .ok (.string (strB l)) w := by
  by_cases h0 : l.length = 0
  · obtain rfl : l = [] := List.eq_nil_of_length_eq_zero h0
    cases A with
    | none => exact run_convert_bytes_nil w 43 5 Try.underlying43 Try.underlying5 0 c 9 Try.underlying9
    | some a =>
      rw [List.length_nil, run_convert_bytes_string w 43 9 5 _ 0 c Try.underlying43 Try.underlying5 Try.underlying9]
      exact run_bytesToString w a 0 c [] (by simpa using run_loadCells_list (P := Try.prog) w a [] (by simp))
  · obtain ⟨b, off, rfl, hb, hc⟩ := hr.2 (by omega)
    have := run_convert_bytes_arg (P := Try.prog) w 43 5 Try.underlying43 Try.underlying5 b off l.length c (l.map fun x : Nat => (x : Int)) (by simp) (fun i hi => by
      rw [hc i hi]; simp [hi]) 9 Try.underlying9
    rw [this]
    congr 2
    unfold strOfNums strB
    rw [List.map_map]
    rfl
theorem toList_same (s t : ByteArray) : (s.toList == t.toList) = decide (byt s = byt t) := by
  rw [ByteArray.toList_eq, ByteArray.toList_eq, Bool.eq_iff_iff, beq_iff_eq, decide_eq_true_iff]
  refine ⟨fun h => by unfold byt; rw [h], fun h => by rw [byt_inj h]⟩
/-- []byte(s). -/
theorem run_byt (s : ByteArray) (w : World) : ∃ c W, (convert 9 43 (.string s)).run Try.prog w = .ok (.slice (some ⟨w.heap.size, 0, none⟩) s.size c) W ∧ Row W W.heap.size (some ⟨w.heap.size, 0, none⟩) (byt s) ∧ Below w.heap.size w W ∧ (∀ j, j < s.size → W.frozen? ⟨w.heap.size, j, none⟩ = false) ∧ s.size ≤ c := by
  refine ⟨_, _, Lib.run_convert_string_bytes w 9 43 5 s Try.underlying9 Try.underlying43 Try.underlying5, ?_, ?_, ?_, grownCap_ge _ _ _ _⟩
  · refine ⟨byt_lt s, fun _ => ⟨w.heap.size, 0, rfl, by rw [Lib.bytesWorld_size]; omega, fun j hj => ?_⟩⟩
    rw [byt_length] at hj
    rw [Nat.zero_add, Lib.bytesWorld_cell w 5 s j hj]
    congr 3
    have hj2 : j < s.data.size := hj
    unfold byt
    rw [List.getElem?_map, List.getD_eq_getElem?_getD, List.getElem?_eq_getElem (by simpa using hj2)]
    rfl
  · exact ⟨rfl, rfl, rfl, by rw [Lib.bytesWorld_size]; omega, fun k hk => Lib.bytesWorld_at_old w 5 s k hk⟩
  · intro j hj
    unfold World.frozen?
    rw [Lib.bytesWorld_at_new]
    have : j < (Lib.bytesCells w 5 s).size := by
      unfold Lib.bytesCells; simp; exact Nat.lt_of_lt_of_le hj (Nat.le_add_right _ _)
    simp; omega
end Go.Proofs.Ytadcmljcbmfcaaa.Wi
