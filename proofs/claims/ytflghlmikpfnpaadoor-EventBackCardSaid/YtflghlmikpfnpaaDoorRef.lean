/-
  The reference's put: bytes that grow by append.
-/
import Derived.Test.YtflghlmikpfnpaaDoorOps
import Derived.Maps.AppendAt
import Derived.Deep.DeepAppendWide
import Derived.StillTailTactics
namespace Go.Proofs.YtflghlmikpfnpaaDoor
open Go.RowKit

/-- A slice of the call's own that holds l. -/
def OwnB (w : World) (base g cap : Nat) (l : List Nat) : Prop := w.ownsRow base 5 1 (.slice (some ⟨g, 0, none⟩) l.length cap) l.length (cellsB l)

set_option maxRecDepth 100000 in
theorem OwnB.parts {w : World} {base g cap : Nat} {l : List Nat} (h : OwnB w base g cap l) : ∃ cur, base ≤ g ∧ w.heap[g]? = some (.cells cur 5 (0, 0)) ∧ l.length ≤ cap ∧ cap ≤ maxLen ∧ cur.size = cap ∧ cur.toList.take l.length = cellsB l := by
  rcases h.2 with ⟨h, _⟩ | ⟨g', cap', cur, e, hb, hc, h1, h2, h3, h4⟩
  · cases h
  · injection e with e1 e2 e3
    injection e1 with e1
    injection e1 with e1
    subst e1; subst e3
    exact ⟨cur, hb, hc, h1, h2, by simpa using h3, by simpa using h4⟩
set_option maxRecDepth 100000 in
theorem OwnB.of {w : World} {base g cap : Nat} {l : List Nat} (cur : Array Value) (hb : base ≤ g) (hc : w.heap[g]? = some (.cells cur 5 (0, 0))) (h1 : l.length ≤ cap) (h2 : cap ≤ maxLen) (h3 : cur.size = cap) (h4 : cur.toList.take l.length = cellsB l) : OwnB w base g cap l :=
  ⟨by rw [cellsB_length, Nat.mul_one], .inr ⟨g, cap, cur, rfl, hb, hc, h1, h2, by simpa using h3, by simpa using h4⟩⟩
set_option maxRecDepth 100000 in
theorem OwnB.lt {w : World} {base g cap : Nat} {l : List Nat} (h : OwnB w base g cap l) : base ≤ g ∧ g < w.heap.size := by
  obtain ⟨cur, hb, hc, _⟩ := h.parts
  exact ⟨hb, (Array.getElem?_eq_some_iff.1 hc).1⟩
set_option maxRecDepth 100000 in
theorem OwnB.cell {w : World} {base g cap : Nat} {l : List Nat} (h : OwnB w base g cap l) (j : Nat) (hj : j < l.length) : w.cell? ⟨g, j, none⟩ = some (.int .u8 ((l[j]?.getD 0 : Nat) : Int)) := by
  obtain ⟨cur, hb, hc, h1, h2, h3, h4⟩ := h.parts
  rw [cell_of_row w g j cur 5 (0, 0) hc, ← cellsB_get l j hj, ← h4, List.getElem?_take, if_pos hj]
  simp
set_option maxRecDepth 100000 in
theorem OwnB.frozen {w : World} {base g cap : Nat} {l : List Nat} (h : OwnB w base g cap l) (j : Nat) : w.frozen? ⟨g, j, none⟩ = false := by
  obtain ⟨cur, hb, hc, _⟩ := h.parts
  simp [World.frozen?, hc]
set_option maxRecDepth 100000 in
theorem OwnB.row {w : World} {base g cap B : Nat} {l : List Nat} (h : OwnB w base g cap l) (hl : ∀ x ∈ l, x < 256) (hB : g < B) : Row w B (some ⟨g, 0, none⟩) l :=
  ⟨hl, fun _ => ⟨g, 0, rfl, hB, fun j hj => by rw [Nat.zero_add]; exact h.cell j hj⟩⟩
set_option maxRecDepth 100000 in
theorem OwnB.store {w : World} {base g cap : Nat} {l : List Nat} (h : OwnB w base g cap l) (q u : Nat) : OwnB (w.setCell ⟨g, q, none⟩ (.int .u8 (u : Int))) base g cap (l.set q u) := by
  obtain ⟨cur, hb, hc, h1, h2, h3, h4⟩ := h.parts
  refine OwnB.of (cur.setIfInBounds q (.int .u8 (u : Int))) hb ?_ (by simpa using h1) h2 (by simpa using h3) ?_
  · simp [World.setCell, Array.getElem?_modify, hc]
  · rw [Array.toList_setIfInBounds, List.length_set, List.take_set, h4]
    unfold cellsB; rw [List.map_set]
set_option maxRecDepth 100000 in
theorem OwnB.kept {w w' : World} {base g cap : Nat} {l : List Nat} {row : Option Nat} (h : OwnB w base g cap l) (hg : w.grownBy w' row) (hne : some g ≠ row) : OwnB w' base g cap l := by
  obtain ⟨cur, hb, hc, h1, h2, h3, h4⟩ := h.parts
  exact OwnB.of cur hb ((hg.block g h.lt.2 hne).trans hc) h1 h2 h3 h4
set_option maxRecDepth 100000 in
theorem OwnB.alloc {w : World} {base g cap : Nat} {l : List Nat} (h : OwnB w base g cap l) (o : Obj) : OwnB (w.alloc o) base g cap l := h.kept (World.grownBy_alloc w o none) (by simp)

set_option maxRecDepth 100000 in
/-- append(out, x...). -/
theorem OwnB.append {w : World} {base g cap : Nat} {l : List Nat} (h : OwnB w base g cap l) (A : Option Addr) (c : Nat) (x : List Nat) (B : Nat) (hr : Row w B A x) (ty : TypeId) (hb : l.length + x.length ≤ 140737489403904) (hbase : base ≤ w.heap.size) :
    ∃ g' cap' w', (Builtin.append_ #[38, 38] ty #[.slice (some ⟨g, 0, none⟩) l.length cap, .slice A x.length c]).run Tryd.prog w = .ok (.slice (some ⟨g', 0, none⟩) (l.length + x.length) cap') w' ∧ OwnB w' base g' cap' (l ++ x) ∧ w.grownBy w' (some g) := by
  obtain ⟨i0, hi, hz0, hz1, hz2⟩ := info_parts info5
  have fin : ∀ v' w', w'.ownsRow base 5 1 v' (l.length + x.length) (cellsB l ++ cellsB x) → v' ≠ .slice none 0 0 → ∃ g' cap', v' = .slice (some ⟨g', 0, none⟩) (l.length + x.length) cap' ∧ OwnB w' base g' cap' (l ++ x) := by
    intro v' w' ho hne
    rcases ho.2 with ⟨e, _⟩ | ⟨g', cap', cur, e, _⟩
    · exact absurd e hne
    · refine ⟨g', cap', e, ?_⟩
      rw [e] at ho
      unfold OwnB
      rw [List.length_append, show cellsB (l ++ x) = cellsB l ++ cellsB x by simp [cellsB]]
      exact ho
  have hcells : ∀ ad, A = some ad → ∀ j u, (cellsB x)[j]? = some u → w.cell? (ad.add j) = some u := by
    rintro ad rfl j u hu
    have hj : j < x.length := by have := (List.getElem?_eq_some_iff.1 hu).1; rwa [cellsB_length] at this
    obtain ⟨b, off, e, _, hc⟩ := hr.2 (by omega)
    injection e with e
    subst e
    rw [cellsB_get x j hj] at hu
    injection hu with hu
    rw [← hu]
    unfold Addr.add; split
    · rename_i h; subst h; exact hc 0 hj
    · exact hc j hj
  cases A with
  | none =>
    have hx : x = [] := by
      rcases Nat.eq_zero_or_pos x.length with h0 | h0
      · exact List.eq_nil_of_length_eq_zero h0
      · obtain ⟨b, off, e, _⟩ := hr.2 h0; cases e
    subst hx
    refine ⟨g, cap, w, ?_, by rw [List.append_nil]; exact h, World.grownBy.refl w _⟩
    obtain ⟨cur, _, hc, h1, _⟩ := h.parts
    simp [Builtin.append_, run_underlying Tryd.underlying38, sizeOf, typeInfo, hi, Builtin.lenOf, Builtin.firstCells, h1, storeCells]
  | some ad =>
    obtain ⟨v', w', hrun, ho, hg, hn⟩ := run_append_own_wide (P := Tryd.prog) w base 38 ty 5 i0 (.int .u8 0) 1 1 Tryd.underlying38 hi hz0 hz1 hz2 rfl (by decide) _ _ _ h ad x.length c (cellsB x) (by rw [cellsB_length, Nat.mul_one]) (hcells ad rfl) (oneCell_cellsB x) (by unfold maxLen; omega) (by omega) hbase
    obtain ⟨g', cap', rfl, hO⟩ := fin v' w' ho (fun e => by have := (hn.1 e).1; cases this)
    exact ⟨g', cap', w', hrun, hO, hg⟩

set_option maxRecDepth 100000 in
theorem bit_one (v j : Nat) (hv : v < 18446744073709551616) : bits .and .u64 ((v : Int) / 2 ^ min j 64) 1 = ((v / 2 ^ j % 2 : Nat) : Int) := by
  have e : (v : Int) / 2 ^ min j 64 = ((v / 2 ^ min j 64 : Nat) : Int) := by simp
  rw [e, show (1 : Int) = ((1 : Nat) : Int) from rfl, u64_and_nat _ _ (Nat.lt_of_le_of_lt (Nat.div_le_self _ _) hv) (by decide), nat_mask1]
  congr 2
  rcases Nat.le_total j 64 with h | h
  · rw [Nat.min_eq_left h]
  · rw [Nat.min_eq_right h, Nat.div_eq_of_lt (show v < 2 ^ 64 from hv), Nat.div_eq_of_lt (Nat.lt_of_lt_of_le (show v < 2 ^ 64 from hv) (Nat.pow_le_pow_right (by decide) h))]

set_option maxRecDepth 100000 in
theorem shr_128 (r : Nat) (hr : r < 8) : (128 : Int) / 2 ^ r = ((1 * 2 ^ (7 - r) : Nat) : Int) := by
  have : ∀ r, r < 8 → (128 : Int) / 2 ^ r = ((1 * 2 ^ (7 - r) : Nat) : Int) := by decide
  exact this r hr

set_option maxRecDepth 100000 in
theorem make_room (L : Nat) (hL : L ≤ 140737489403904) (w : World) : ∃ X : Array Value, X.size = L + 9 ∧ (Instr.makeSlice 38 (.int .i64 0) (.int .i64 ((L : Int) + 9))).run Tryd.prog w = .ok (.slice (some ⟨w.heap.size, 0, none⟩) 0 (L + 9)) (w.alloc (.cells X 5)) := by
  obtain ⟨i0, hi, hz0, hz1, hz2⟩ := info_parts info5
  have h := run_make (P := Tryd.prog) w 38 5 i0 (.int .u8 0) Tryd.underlying38 hi hz0 .i64 .i64 0 ((L : Int) + 9) (by omega) (by omega) (by rw [hz2]; omega) (by omega)
  refine ⟨_, ?_, h.trans (by rw [show ((L : Int) + 9).toNat = L + 9 by omega]; rfl)⟩
  rw [size_madeCells, hz1]; omega

set_option maxRecDepth 100000 in
theorem digs_take_succ (v m k : Nat) (h : k < m) : (M.digs v m).take (k + 1) = (M.digs v m).take k ++ [v / 2 ^ (m - 1 - k) % 2] := by
  have hl : k < (M.digs v m).length := by rw [M.digs_length]; exact h
  rw [List.take_succ_eq_append_getElem hl]
  congr 2
  have := M.digs_getElem v m k h
  rwa [List.getElem?_eq_getElem hl, Option.getD_some] at this
set_option maxRecDepth 100000 in
theorem own_or {w : World} {base g cap : Nat} {L : List Nat} (h : OwnB w base g cap L) (P q r u : Nat) (hq : P / 8 = q) (hr : P % 8 = r) (hu : L[q]?.getD 0 = u) (hu2 : u < 256) :
    OwnB (w.setCell ⟨g, q, none⟩ (.int .u8 (bits .or .u8 (u : Int) (128 / 2 ^ r)))) base g cap (M.orBit L P 1) := by
  have hr8 : r < 8 := by omega
  have h1 : 1 * 2 ^ (7 - r) < 256 := by
    have : ∀ r, r < 8 → 1 * 2 ^ (7 - r) < 256 := by decide
    exact this r hr8
  rw [shr_128 r hr8, u8_or_nat _ _ hu2 h1]
  have e : M.orBit L P 1 = L.set q (u ||| 1 * 2 ^ (7 - r)) := by unfold M.orBit; rw [hq, hr, hu]
  rw [e]
  exact h.store q _
set_option maxRecDepth 100000 in
theorem orBit_zero (L : List Nat) (P : Nat) : M.orBit L P 0 = L := by
  unfold M.orBit
  rw [Nat.zero_mul, Nat.or_zero]
  rcases Nat.lt_or_ge (P / 8) L.length with h | h
  · rw [List.getElem?_eq_getElem h]; simp
  · exact List.set_eq_of_length_le h
set_option maxRecDepth 100000 in
theorem refStep_new (L : List Nat) (P d : Nat) (h : P % 8 = 0) : M.refStep L P d = M.orBit (L ++ [0]) P d := by unfold M.refStep; rw [if_pos h]
set_option maxRecDepth 100000 in
theorem refStep_old (L : List Nat) (P d : Nat) (h : ¬ P % 8 = 0) : M.refStep L P d = M.orBit L P d := by unfold M.refStep; rw [if_neg h]

set_option maxRecDepth 100000 in
/-- An append whose run is known. -/
theorem wpList_append_run {P : Program} {w w' : World} {v' : Value} {ops : Array Oper} {rest : List Oper} {o : Oper} {a : Act} {Q : Exit → Act → World → Prop} (hgd : o.guard = none) (s x : Operand) (t u : TypeId)
    (ho : o.op = .call { callee := .builtin .append, args := #[s, x], argTypes := #[t, u] }) (vs vx : Value) (hs : a.eval s = vs) (hx : a.eval x = vx) (hrun : (Builtin.append_ #[t, u] o.type #[vs, vx]).run P w = .ok v' w')
    (h : wpList P ops Q rest (a.put o.dst v') w') : wpList P ops Q (o :: rest) a w :=
  wpList_plain hgd fun _ hK => by
    unfold Oper.wp execOp
    simp only [ho, resolve, invoke, builtin, Sem.run_bind, Sem.run_pure, Result.andThen_ok, List.map_toArray, List.map_cons, List.map_nil, hs, hx, hrun]
    exact hK _ _ h

set_option maxRecDepth 100000 in
set_option maxHeartbeats 2000000 in
theorem rput_any (A : Option Addr) (c : Nat) (l : List Nat) (n v m : Nat) (w : World) (hr : Row w w.heap.size A l) (hlen : l.length = (n + 7) / 8) (hl : l.length ≤ 140737489403000) (hv : v < 18446744073709551616) (hm : m ≤ 200) :
    Calls Tryd.prog 94 #[.slice A l.length c, .int .i64 n, .int .u64 v, .int .i64 m] w fun e W' =>
      ∃ A' c', e = .returned (.tuple #[.slice A' (M.putL l n (M.digs v m)).length c', .int .i64 ((n + m : Nat) : Int)]) ∧ Row W' W'.heap.size A' (M.putL l n (M.digs v m)) ∧ Below w.heap.size w W' := by
  obtain ⟨X, hX, hmk⟩ := make_room l.length (by omega) w
  have hO0 : OwnB (w.alloc (.cells X 5)) w.heap.size w.heap.size (l.length + 9) [] := OwnB.of X (Nat.le_refl _) (World.alloc_heap_new w _) (by simp) (by unfold maxLen; omega) hX (by simp [cellsB])
  obtain ⟨g1, cap1, w1, hap, hO1, hg1⟩ := hO0.append A c l w.heap.size (hr.below ((Below.refl _ w).alloc (Nat.le_refl _) _)) 38 (by simp; omega) (by simp)
  have hB1 : Below w.heap.size w w1 := ((Below.refl _ w).alloc (Nat.le_refl _) _).grown hg1 (by simp) (by rintro j e; cases e; exact Nat.le_refl _)
  rw [List.nil_append] at hO1
  simp only [List.length_nil, Nat.zero_add] at hap
  have hn2 : n ≤ 1125899915231232 := by omega
  have HR := Lib.hid hr
  have HLE := Lib.hid hlen
  have HO1 := Lib.hid hO1
  clear hr hlen hO0 hg1 hX hO1
  have HAP := Lib.hid hap; clear hap
  go_enter Tryd.func94, Tryd.ntmps94
  go_wp2_with (at_builtin; refine wpList_append_run rfl _ _ _ _ rfl _ _ rfl rfl HAP.out ?_)
  go_loopw [1, 10, 11] (fun a o i wr => ∃ (k : Nat) (j : Int) (L : List Nat) (g cap : Nat), k ≤ m ∧ a = .int .i64 ((n + k : Nat) : Int) ∧ o = .slice (some ⟨g, 0, none⟩) L.length cap ∧ i = .int .i64 j ∧ Hid (j = (m : Int) - 1 - k) ∧ Hid (L = M.putL l n ((M.digs v m).take k)) ∧ Hid (OwnB wr w.heap.size g cap L) ∧ Below w.heap.size w wr)
    (fun _ _ i _ => (intOf i + 1).toNat)
  case atStart => exact ⟨0, _, l, g1, cap1, Nat.zero_le _, rfl, rfl, rfl, by show _ = _; omega, rfl, HO1, hB1⟩
  case round =>
    obtain ⟨k, j, L, g, cap, hk, rfl, rfl, rfl, hj, hL, hO, hB⟩ := hrel
    have hL256 : Hid (∀ x ∈ L, x < 256) := by
      show ∀ x ∈ L, x < 256
      rw [hL.out]; exact M.putL_lt l n _ HR.out.1 (fun b hb => M.digs_lt v m b (List.mem_of_mem_take hb))
    by_cases hlt : k < m
    · obtain ⟨jn, hjn⟩ : ∃ jn : Nat, j = jn := ⟨j.toNat, by have := hj.out; omega⟩
      subst hjn
      have hj2 : jn ≤ 200 := by have := hj.out; omega
      have hbit := bit_one v jn hv
      have hLl : Hid (L.length = (n + k + 7) / 8) := by
        show _ = _
        rw [hL.out, M.putL_length l n _ HLE.out, List.length_take, M.digs_length, Nat.min_eq_left hk]
      have hnx : Hid (M.refStep L (n + k) (v / 2 ^ jn % 2) = M.putL l n ((M.digs v m).take (k + 1))) := by
        show _ = _
        rw [digs_take_succ v m k hlt, M.putL_snoc, List.length_take, M.digs_length, Nat.min_eq_left hk, hL.out, show m - 1 - k = jn by have := hj.out; omega]
      have hd2 : v / 2 ^ jn % 2 < 2 := Nat.mod_lt _ (by decide)
      obtain ⟨d, hd⟩ : ∃ d, v / 2 ^ jn % 2 = d := ⟨_, rfl⟩
      rw [hd] at hbit hnx hd2
      clear hd
      obtain ⟨P, hP⟩ : ∃ P, n + k = P := ⟨_, rfl⟩
      rw [hP] at hnx hLl ⊢
      have HP := Lib.hid hP
      have hP2 : P ≤ 1125899915231700 := by omega
      clear hP
      obtain ⟨q, hq⟩ : ∃ q, P / 8 = q := ⟨_, rfl⟩
      obtain ⟨r, hr8⟩ : ∃ r, P % 8 = r := ⟨_, rfl⟩
      have r1 : (P : Int).tdiv 8 = (q : Int) := by rw [Int.tdiv_eq_ediv_of_nonneg (by omega)]; omega
      have r2 : (P : Int).tmod 8 = (r : Int) := by rw [Int.tmod_eq_emod_of_nonneg (by omega)]; omega
      have r4 : IntKind.i64.wrap (q : Int) = (q : Int) := IntWalk.i64_in _ (by omega)
      have r5 : IntKind.i64.wrap (r : Int) = (r : Int) := IntWalk.i64_in _ (by omega)
      have r7 : r < 8 := by omega
      have HQ := Lib.hid hq
      have HR8 := Lib.hid hr8
      clear hq hr8
      by_cases h8 : P % 8 = 0
      · have hb8 : ((r : Int) == 0) = true := by have := HR8.out; simp; omega
        have hLb : L.length ≤ 140737489403500 := by have := hLl.out; have := HLE.out; have := HP.out; omega
        have hrow0 : Row (wr.alloc (.cells #[.int .u8 0] 5)) (wr.heap.size + 1) (some ⟨wr.heap.size, 0, none⟩) [0] :=
          ⟨by simp, fun _ => ⟨wr.heap.size, 0, rfl, by omega, fun j hj => by
            obtain rfl : j = 0 := by simp at hj; omega
            exact cell_new_b wr (.int .u8 0) 5⟩⟩
        obtain ⟨g2, cap2, w2, hap2, hO2, hg2⟩ := (hO.out.alloc (.cells #[.int .u8 0] 5)).append (some ⟨wr.heap.size, 0, none⟩) 1 [0] (wr.heap.size + 1) hrow0 38 (by simp; omega) (by have := hB.size; simp; omega)
        have HAP2 := Lib.hid hap2
        simp only [List.length_singleton] at HAP2
        have HO2 := Lib.hid hO2
        have hB2 : Below w.heap.size w w2 := (hB.alloc hB.size _).grown hg2 (by have := hB.size; simp; omega) (by rintro j e; cases e; exact hO.out.lt.1)
        have H8 := Lib.hid h8
        clear hap2 hO2 hg2 hrow0 h8
        by_cases hd1 : d = 1
        · subst hd1
          have hq2 : q < L.length + 1 := by have := HQ.out; have := hLl.out; omega
          have hq3 : (q : Int) < (L.length : Int) + 1 := by omega
          have hc := HO2.out.cell q (by simpa using hq2)
          have hf := HO2.out.frozen q
          obtain ⟨u, hu⟩ : ∃ u, (L ++ [0])[q]?.getD 0 = u := ⟨_, rfl⟩
          rw [hu] at hc
          have HU := Lib.hid hu
          clear hu
          go_wp2_with (at_builtin; refine wpList_append_run rfl _ _ _ _ rfl _ _ rfl rfl HAP2.out ?_)
          go_still_tail 13, (by kernel_rfl)
          go_wp2
          have hu2 : u < 256 := by rw [← HU.out]; exact (HO2.out.row (fun x hx => (List.mem_append.1 hx).elim (hL256.out x) (fun e => by simp at e; omega)) HO2.out.lt.2).elem q
          have hO3 := own_or HO2.out P q r u HQ.out HR8.out HU.out hu2
          have e1 := (refStep_new L P 1 H8.out).symm.trans hnx.out
          refine ⟨⟨k + 1, (jn : Int) - 1, M.orBit (L ++ [0]) P 1, g2, cap2, by omega, by have := HP.out; rw [show n + (k + 1) = P + 1 by omega]; rfl, by rw [M.orBit_length]; simp, rfl, by have := hj.out; show _ = _; omega, e1, hO3, (hB2.setCell (p := ⟨g2, q, none⟩) HO2.out.lt.1 _).drew⟩, by simp [intOf]⟩
        · obtain rfl : d = 0 := by omega
          go_wp2_with (at_builtin; refine wpList_append_run rfl _ _ _ _ rfl _ _ rfl rfl HAP2.out ?_)
          have e1 := (orBit_zero (L ++ [0]) P).symm.trans ((refStep_new L P 0 H8.out).symm.trans hnx.out)
          refine ⟨⟨k + 1, (jn : Int) - 1, L ++ [0], g2, cap2, by omega, by have := HP.out; rw [show n + (k + 1) = P + 1 by omega]; rfl, by simp, rfl, by have := hj.out; show _ = _; omega, e1, HO2.out, hB2⟩, by simp [intOf]⟩
      · have hb8 : ((r : Int) == 0) = false := by have := HR8.out; simp; omega
        have H8 := Lib.hid h8
        clear h8
        by_cases hd1 : d = 1
        · subst hd1
          have hq2 : q < L.length := by have := HQ.out; have := hLl.out; have := H8.out; omega
          have hq3 : (q : Int) < (L.length : Int) := by omega
          have hc := hO.out.cell q hq2
          have hf := hO.out.frozen q
          obtain ⟨u, hu⟩ : ∃ u, L[q]?.getD 0 = u := ⟨_, rfl⟩
          rw [hu] at hc
          have HU := Lib.hid hu
          clear hu
          go_wp2
          go_still_tail 13, (by kernel_rfl)
          go_wp2
          have hu2 : u < 256 := by rw [← HU.out]; exact (hO.out.row hL256.out hO.out.lt.2).elem q
          have hO3 := own_or hO.out P q r u HQ.out HR8.out HU.out hu2
          have e1 := (refStep_old L P 1 H8.out).symm.trans hnx.out
          refine ⟨⟨k + 1, (jn : Int) - 1, M.orBit L P 1, g, cap, by omega, by have := HP.out; rw [show n + (k + 1) = P + 1 by omega]; rfl, by rw [M.orBit_length], rfl, by have := hj.out; show _ = _; omega, e1, hO3, (hB.setCell (p := ⟨g, q, none⟩) hO.out.lt.1 _).drew⟩, by simp [intOf]⟩
        · obtain rfl : d = 0 := by omega
          go_wp2
          have e1 := (orBit_zero L P).symm.trans ((refStep_old L P 0 H8.out).symm.trans hnx.out)
          refine ⟨⟨k + 1, (jn : Int) - 1, L, g, cap, by omega, by have := HP.out; rw [show n + (k + 1) = P + 1 by omega]; rfl, rfl, rfl, by have := hj.out; show _ = _; omega, e1, hO.out, hB⟩, by simp [intOf]⟩
    · have hjn : j < 0 := by have := hj.out; omega
      have HF : Hid (L = M.putL l n (M.digs v m)) := by
        show _ = _
        rw [hL.out, List.take_of_length_le (by rw [M.digs_length]; omega)]
      obtain rfl : k = m := by omega
      go_wp2
      go_ret2
      rw [← HF.out]
      exact ⟨some ⟨g, 0, none⟩, cap, rfl, hO.out.row hL256.out hO.out.lt.2, hB⟩
end Go.Proofs.YtflghlmikpfnpaaDoor
