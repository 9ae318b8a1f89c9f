/-
  strconv.AppendInt at base 10, laid at this program: how the numbers of the library's text stand to those of this program.
-/
import Derived.Shelf.LaysM
import Derived.Shelf.Strconv.AppendIntPublic10
import Derived.Test.YtoaglkjpjolacaaGreatDoorProg
import Derived.Test.YtoaglkjpjolacaaGreatDoorVE4
import Derived.Test.YtoaglkjpjolacaaGreatDoorVE3
import Derived.Lib.BufferWrite
import Derived.Lib.ItoaLen
import Derived.Laws.BytesArg
import Derived.Laws.BytesString
namespace Go.Proofs
open Go.Shelf
def Tryz.laysM176_ren : Go.Shelf.Ren := ⟨fun | 176 => 123 | 249 => 160 | 288 => 169 | 283 => 171 | 284 => 172 | 285 => 173 | 286 => 174 | 129 => 176 | 317 => 175 | 318 => 177 | 319 => 178 | 320 => 179 | 337 => 180 | 338 => 181 | n => n, fun | 37 => 66 | 2 => 2 | 3 => 3 | 53 => 71 | 4 => 4 | 9 => 9 | 171 => 180 | 0 => 0 | 173 => 182 | 212 => 185 | 51 => 186 | 5 => 5 | 20 => 20 | 213 => 187 | 46 => 132 | 232 => 191 | 233 => 192 | n => n, fun | 17 => 0 | 18 => 1 | 19 => 2 | n => n⟩
theorem Tryz.laysM176 : Go.Proofs.LaysM.n176 Tryz.prog Tryz.laysM176_ren := {
  mixed := by kernel_rfl
  f129 := Tryz.func176.trans (congrArg some (by kernel_rfl))
  f176 := Tryz.func123.trans (congrArg some (by kernel_rfl))
  f249 := Tryz.func160.trans (congrArg some (by kernel_rfl))
  f283 := Tryz.func171.trans (congrArg some (by kernel_rfl))
  f284 := Tryz.func172.trans (congrArg some (by kernel_rfl))
  f285 := Tryz.func173.trans (congrArg some (by kernel_rfl))
  f286 := Tryz.func174.trans (congrArg some (by kernel_rfl))
  f288 := Tryz.func169.trans (congrArg some (by kernel_rfl))
  f317 := Tryz.func175.trans (congrArg some (by kernel_rfl))
  f318 := Tryz.func177.trans (congrArg some (by kernel_rfl))
  f319 := Tryz.func178.trans (congrArg some (by kernel_rfl))
  f320 := Tryz.func179.trans (congrArg some (by kernel_rfl))
  f337 := Tryz.func180.trans (congrArg some (by kernel_rfl))
  f338 := Tryz.func181.trans (congrArg some (by kernel_rfl))
  t0 := Tryz.underlying0
  a0 := Tryz.isAgg0
  z0 := Tryz.sizeOf0
  v0 := Tryz.zeroValue0
  t2 := Tryz.underlying2
  a2 := Tryz.isAgg2
  z2 := Tryz.sizeOf2
  v2 := Tryz.zeroValue2
  t3 := Tryz.underlying3
  a3 := Tryz.isAgg3
  z3 := Tryz.sizeOf3
  v3 := Tryz.zeroValue3
  t4 := Tryz.underlying4
  a4 := Tryz.isAgg4
  z4 := Tryz.sizeOf4
  v4 := Tryz.zeroValue4
  t5 := Tryz.underlying5
  a5 := Tryz.isAgg5
  z5 := Tryz.sizeOf5
  v5 := Tryz.zeroValue5
  t9 := Tryz.underlying9
  a9 := Tryz.isAgg9
  z9 := Tryz.sizeOf9
  v9 := Tryz.zeroValue9
  t20 := Tryz.underlying20
  a20 := Tryz.isAgg20
  z20 := Tryz.sizeOf20
  v20 := Tryz.zeroValue20
  t37 := Tryz.underlying66
  a37 := Tryz.isAgg66
  z37 := Tryz.sizeOf66
  v37 := Tryz.zeroValue66
  t46 := Tryz.underlying132
  a46 := Tryz.isAgg132
  z46 := Tryz.sizeOf132
  v46 := Tryz.zeroValue132
  t51 := Tryz.underlying186
  a51 := Tryz.isAgg186
  z51 := Tryz.sizeOf186
  v51 := Tryz.zeroValue186
  t53 := Tryz.underlying71
  a53 := Tryz.isAgg71
  z53 := Tryz.sizeOf71
  v53 := Tryz.zeroValue71
  t171 := Tryz.underlying180
  a171 := Tryz.isAgg180
  z171 := Tryz.sizeOf180
  v171 := Tryz.zeroValue180
  t173 := Tryz.underlying182
  a173 := Tryz.isAgg182
  z173 := Tryz.sizeOf182
  v173 := Tryz.zeroValue182
  t212 := Tryz.underlying185
  a212 := Tryz.isAgg185
  z212 := Tryz.sizeOf185
  v212 := Tryz.zeroValue185
  t213 := Tryz.underlying187
  a213 := Tryz.isAgg187
  z213 := Tryz.sizeOf187
  t232 := Tryz.underlying191
  a232 := Tryz.isAgg191
  z232 := Tryz.sizeOf191
  v232 := Tryz.zeroValue191
  t233 := Tryz.underlying192
  a233 := Tryz.isAgg192
  z233 := Tryz.sizeOf192
  v233 := Tryz.zeroValue192
  g17 := by kernel_rfl
  g18 := by kernel_rfl
  g19 := by kernel_rfl
  i0 := by kernel_rfl
  i2 := by kernel_rfl
  i3 := by kernel_rfl
  i4 := by kernel_rfl
  i5 := by kernel_rfl
  i9 := by kernel_rfl
  i20 := by kernel_rfl
  i37 := by kernel_rfl
  i46 := by kernel_rfl
  i51 := by kernel_rfl
  i53 := by kernel_rfl
  i171 := by kernel_rfl
  i173 := by kernel_rfl
  i212 := by kernel_rfl
  i232 := by kernel_rfl
  i233 := by kernel_rfl
  m17 := by kernel_rfl
  m18 := by kernel_rfl
  m19 := by kernel_rfl }
open Go.RowKit Go.Sort Go.Lib in
theorem Tryz.strconv_AppendInt_10 (B n : Nat) (i : Int) (h0 : -9223372036854775808 ≤ i) (h1 : i ≤ 9223372036854775807) (sv : Value) (xs : List Value) (w : World) (hown : w.ownsRow B 5 1 sv n xs) (hBw : B ≤ w.heap.size) (hlim : n + 21 ≤ 140737488355328) (htab : Lib.TabBelow Tryz.prog B w "internal/strconv.uint64pow10" .u64 Lib.pow10Tab) :
    Calls Tryz.prog 123 #[sv, .int .i64 i, .int .i64 10] w fun e w' => ∃ v', e = .returned v' ∧ w'.ownsRow B 5 1 v' (n + (Lib.itoa i).length) (xs ++ Lib.byteCells (Lib.itoa i)) ∧ Below B w w' ∧ Lib.OthersKept 5 none w w' := Any.strconv_AppendInt_10 Tryz.laysM176 B n i h0 h1 sv xs w hown hBw hlim htab
end Go.Proofs
namespace Go.Proofs.YtoaglkjpjolacaaGreatDoor.E
open Go.RowKit
/-- A tree's text. -/
def txt : Tr → List UInt8
  | .leaf n => Lib.itoa n
  | .node n l r => 40 :: (Lib.itoa n ++ (44 :: (txt l ++ (44 :: (txt r ++ [41])))))
theorem itoa_len {n : Int} (h0 : 0 ≤ n) (h1 : n ≤ 4611686018427387904) : (Lib.itoa n).length ≤ 20 := by
  obtain ⟨u, rfl⟩ : ∃ u : Nat, n = u := ⟨n.toNat, by omega⟩
  rw [Lib.itoa_nonneg, Lib.decDigits_length]
  exact Lib.nDigits_le20 u (by omega)
theorem txt_len : ∀ (t : Tr) (m : Int), t.okc m = true → m ≤ 4611686018427387904 → (txt t).length ≤ 24 * t.nodes
  | .leaf n, m, h, hm => by
    have := okc_N _ _ h
    simp only [Tr.N] at this
    have := itoa_len this.1 (by omega)
    simp only [txt, Tr.nodes]; omega
  | .node n l r, m, h, hm => by
    have h0 := okc_N _ _ h
    simp only [Tr.N] at h0
    simp only [Tr.okc, Bool.and_eq_true_iff] at h
    have := itoa_len h0.1 (by omega)
    have := txt_len l _ h.2.1 (by omega)
    have := txt_len r _ h.2.2 (by omega)
    simp only [txt, Tr.nodes, List.length_cons, List.length_append, List.length_nil]; omega
/-- A slice of bytes of the call's own that holds l, nil if it holds none. -/
def Gb (w : World) (base : Nat) (A : Option Addr) (c : Nat) (l : List UInt8) : Prop := w.ownsRow base 5 1 (.slice A l.length c) l.length (Lib.byteCells l)
theorem Gb.nil (w : World) (base : Nat) : Gb w base none 0 [] := ⟨by simp [Lib.byteCells], .inl ⟨rfl, rfl⟩⟩
theorem Gb.of {w : World} {base n : Nat} {v : Value} {l : List UInt8} (h : w.ownsRow base 5 1 v n (Lib.byteCells l)) (hn : n = l.length) : ∃ A c, v = .slice A l.length c ∧ Gb w base A c l := by
  subst hn
  rcases h.2 with ⟨e, h0⟩ | ⟨g, cap, cur, e, h1⟩
  · have hl : l = [] := List.eq_nil_of_length_eq_zero h0
    subst hl
    exact ⟨none, 0, e, Gb.nil _ _⟩
  · exact ⟨_, _, e, by unfold Gb; rw [← e]; exact h⟩
theorem Gb.cases {w : World} {base : Nat} {A : Option Addr} {c : Nat} {l : List UInt8} (h : Gb w base A c l) : (A = none ∧ l = [] ∧ c = 0) ∨ ∃ g cur, A = some ⟨g, 0, none⟩ ∧ base ≤ g ∧ w.heap[g]? = some (.cells cur 5 (0, 0)) ∧ l.length ≤ c ∧ cur.toList.take l.length = Lib.byteCells l := by
  rcases h.2 with ⟨e, h0⟩ | ⟨g, cap, cur, e, hb, hc, h1, h2, h3, h4⟩
  · injection e with e1 e2 e3
    exact .inl ⟨e1, List.eq_nil_of_length_eq_zero e2, e3⟩
  · injection e with e1 e2 e3
    subst e1; subst e3
    exact .inr ⟨g, cur, rfl, hb, hc, h1, by simpa using h4⟩
theorem Gb.below {w w' : World} {base c B : Nat} {A : Option Addr} {l : List UInt8} (h : Gb w base A c l) (hb : Below B w w') (hB : w.heap.size ≤ B) : Gb w' base A c l := by
  refine ⟨h.1, ?_⟩
  rcases h.2 with ⟨e, h0⟩ | ⟨g, cap, cur, e, hb', hc, h1⟩
  · exact .inl ⟨e, h0⟩
  · have := (Array.getElem?_eq_some_iff.1 hc).1
    exact .inr ⟨g, cap, cur, e, hb', (hb.block g (by omega)).trans hc, h1⟩
theorem Gb.own {w : World} {base c : Nat} {A : Option Addr} {l : List UInt8} (h : Gb w base A c l) : ∀ k, (Value.slice A l.length c).ownBlock = some k → base ≤ k ∧ k < w.heap.size ∧ ∃ c fz, w.heap[k]? = some (.cells c 5 fz) := by
  rcases h.cases with ⟨rfl, rfl, rfl⟩ | ⟨g, cur, rfl, hb, hc, _⟩
  · intro k e; simp [Value.ownBlock] at e
  · intro k e
    simp only [Value.ownBlock, Option.some.injEq] at e
    subst e
    exact ⟨hb, (Array.getElem?_eq_some_iff.1 hc).1, _, _, hc⟩
theorem info5 : (Tryz.prog.info? 5).map (fun i => (i.zero, i.size, i.bytes)) = some (some (.int .u8 0), 1, 1) := by kernel_rfl
/-- append(out, b): one byte, out of a block of its own. -/
theorem Gb.one {w : World} {base c : Nat} {A : Option Addr} {l : List UInt8} (h : Gb w base A c l) (b : UInt8) (ty : TypeId) (hb : l.length ≤ 10000000) (hbase : base ≤ w.heap.size) :
    ∃ A' c' w', (Builtin.append_ #[66, 66] ty #[.slice A l.length c, .slice (some ⟨w.heap.size, 0, none⟩) 1 1]).run Tryz.prog (w.alloc (.cells #[.int .u8 (b.toNat : Int)] 5)) = .ok (.slice A' (l.length + 1) c') w' ∧ Gb w' base A' c' (l ++ [b]) ∧ Below base w w' ∧ Lib.OthersKept 5 none w w' := by
  obtain ⟨i0, hi, hz0, hz1, hz2⟩ := info_parts info5
  have hB0 : Below base w (w.alloc (.cells #[.int .u8 (b.toNat : Int)] 5)) := (Below.refl _ w).alloc hbase _
  have hBt : Below w.heap.size w (w.alloc (.cells #[.int .u8 (b.toNat : Int)] 5)) := (Below.refl _ w).alloc (Nat.le_refl _) _
  have hcell : ∀ j u, (Lib.byteCells [b])[j]? = some u → (w.alloc (.cells #[.int .u8 (b.toNat : Int)] 5)).cell? ((⟨w.heap.size, 0, none⟩ : Addr).add j) = some u := by
    intro j u hu
    have e : (⟨w.heap.size, 0, none⟩ : Addr).add j = ⟨w.heap.size, j, none⟩ := by
      unfold Addr.add; split
      · rename_i h; subst h; rfl
      · simp
    rw [e, cell_of_row _ _ j _ 5 (0, 0) (heap_alloc_new w _)]
    simpa [Lib.byteCells] using hu
  have h2 := h.below hBt (Nat.le_refl _)
  obtain ⟨v', w', hrun, ho, hg, hn⟩ := run_append_own_wide (P := Tryz.prog) (w.alloc (.cells #[.int .u8 (b.toNat : Int)] 5)) base 66 ty 5 i0 (.int .u8 0) 1 1 Tryz.underlying66 hi hz0 hz1 hz2 rfl (by decide) _ _ _ h2 _ 1 1 (Lib.byteCells [b]) (by simp [Lib.byteCells]) hcell (Lib.byteCells_one [b]) (by unfold maxLen; omega) (by omega) (by simp; omega)
  have hB : Below base w w' := hB0.grown hg (by simp; omega) (fun k e => (h.own k e).1)
  rw [← Lib.byteCells_append] at ho
  obtain ⟨A', c', e', hG⟩ := Gb.of ho (by simp)
  subst e'
  refine ⟨A', c', w', ?_, hG, hB, ((Lib.OthersKept.refl 5 none w).alloc _).grown hg (fun g e => (h2.own g e).2.2)⟩
  rw [hrun, List.length_append]; rfl
theorem kept2 {w w' : World} (h : Lib.OthersKept 5 none w w') {g : Nat} {u v : Value} (hb : w.heap[g]? = some (.cells #[u, v] 27 (0, 0))) : w'.cell? ⟨g, 0, none⟩ = some u ∧ w'.cell? ⟨g, 1, none⟩ = some v := by
  have h2 := h g _ hb (by simp) (fun c fz e => by injection e with _ e2 _; cases e2)
  exact ⟨by rw [cell_of_row w' g 0 _ 27 (0, 0) h2]; rfl, by rw [cell_of_row w' g 1 _ 27 (0, 0) h2]; rfl⟩
/-- The table of powers of ten goes on reading as it is laid. -/
abbrev TabB (B : Nat) (w : World) : Prop := Lib.TabBelow Tryz.prog B w "internal/strconv.uint64pow10" .u64 Lib.pow10Tab
def LaysB (l : List UInt8) (base : Nat) (w : World) (e : Ending) (w' : World) : Prop := ∃ A c, e = .returned (.slice A l.length c) ∧ Gb w' base A c l ∧ Below base w w' ∧ Lib.OthersKept 5 none w w'
theorem appendInt_any (A : Option Addr) (c : Nat) (l : List UInt8) (n : Int) (base : Nat) (w : World) (hg : Gb w base A c l) (hb : base ≤ w.heap.size) (h0 : 0 ≤ n) (h1 : n ≤ 4611686018427387904) (hl : l.length ≤ 10000000) (ht : TabB base w) : Calls Tryz.prog 123 #[.slice A l.length c, .int .i64 n, .int .i64 10] w (LaysB (l ++ Lib.itoa n) base w) := by
  refine (Tryz.strconv_AppendInt_10 base l.length n (by omega) (by omega) _ _ w hg hb (by omega) ht).mono ?_
  rintro e w' ⟨v', rfl, ho, hB, hk⟩
  rw [← Lib.byteCells_append] at ho
  obtain ⟨A', c', e', hG⟩ := Gb.of ho (by simp)
  subst e'
  exact ⟨A', c', rfl, hG, hB, hk⟩

set_option maxRecDepth 100000 in
set_option maxHeartbeats 3200000 in
theorem layText_any : ∀ (t : Tr) (m : Int) (P : Nat → Prop) (A : Option Addr) (c : Nat) (l : List UInt8) (base : Nat) (v : Value) (w : World), InP P w t v → (∀ b, P b → b < base) → t.okc m = true → m ≤ 4611686018427387904 → l.length + 24 * t.nodes ≤ 1000000 → Gb w base A c l → base ≤ w.heap.size → TabB base w →
    Calls Tryz.prog 61 #[.slice A l.length c, v] w (LaysB (l ++ txt t) base w) := by
  intro t
  induction t with
  | leaf n =>
    rintro m P A c l base v w ⟨A1, c1, rfl⟩ hP hok hm hl hg hbase htab
    have hn := okc_N _ _ hok
    simp only [Tr.N] at hn
    simp only [Tr.nodes] at hl
    obtain ⟨W0, hW0⟩ : ∃ W0, w.alloc (.cells #[.int .i64 n, .slice A1 0 c1] 27) = W0 := ⟨_, rfl⟩
    have hB0 : Below w.heap.size w W0 := by rw [← hW0]; exact (Below.refl _ w).alloc (Nat.le_refl _) _
    have hK0 : Lib.OthersKept 5 none w W0 := by rw [← hW0]; exact (Lib.OthersKept.refl _ _ w).alloc _
    have hc := pleaf_any n A1 0 c1 W0
    have p0 : W0.cell? ⟨w.heap.size, 0, none⟩ = some (.int .i64 n) := by rw [← hW0]; simp [go_sem]
    have HR : Hid (l ++ txt (.leaf n) = l ++ Lib.itoa n) := rfl
    have HC : Hid (∀ W, Below w.heap.size w W → Calls Tryz.prog 123 #[.slice A l.length c, .int .i64 n, .int .i64 10] W (LaysB (l ++ Lib.itoa n) base W)) := fun W hW => appendInt_any A c l n base W (hg.below hW (Nat.le_refl _)) (Nat.le_trans hbase hW.size) hn.1 (by omega) (by omega) (htab.on (hW.mono hbase))
    have HW0 := Lib.hid hW0
    have HB := Lib.hid hbase
    unfold tv at hc ⊢
    clear hW0 hok hg htab
    go_enter Tryz.func61, Tryz.ntmps61
    go_wp2_with fail
    rw [HW0.out]
    refine hc.mono ?_
    rintro e w1 ⟨rfl, hb1⟩
    have p1 := (hb1.cell (World.block_lt_of_cell? W0 _ p0)).trans p0
    have hB1 := hB0.trans (hb1.mono hB0.size)
    have HK1 : Hid (Lib.OthersKept 5 none w w1) := hK0.below hb1
    have hc2 := HC.out w1 hB1
    have HB1 := Lib.hid hB1
    clear hc hb1 p0 hB0 hK0 hB1 HC
    go_wp2_with fail
    refine hc2.mono ?_
    rintro e w2 ⟨A2, c2, rfl, hg2, hb2, hk2⟩
    have HG2 := Lib.hid hg2
    have HB2 : Hid (Below base w w2) := (HB1.out.mono HB.out).trans hb2
    have HK2 : Hid (Lib.OthersKept 5 none w w2) := HK1.out.trans hk2
    clear hc2 hg2 hb2 hk2
    go_wp2
    go_ret
    exact ⟨A2, c2, by rw [HR.out, List.length_append]; rfl, by rw [HR.out]; exact HG2.out, HB2.out, HK2.out⟩
  | node n x y ihx ihy =>
    rintro m P A c l base v w ⟨b, off, c1, rfl, hb, ⟨o1, A1, n1, d1, e1, e2, e3⟩, ⟨o2, A2, n2, d2, g1, g2, g3⟩⟩ hP hok hm hl hg hbase htab
    have hbb := hP b hb
    have hn := okc_N _ _ hok
    simp only [Tr.N] at hn
    simp only [Tr.okc, Bool.and_eq_true_iff] at hok
    simp only [Tr.nodes] at hl
    have hil := itoa_len hn.1 (by omega)
    have hlx := txt_len x _ hok.2.1 (by omega)
    have hly := txt_len y _ hok.2.2 (by omega)
    obtain ⟨W0, hW0⟩ : ∃ W0, w.alloc (.cells #[.int .i64 n, .slice (some ⟨b, off, none⟩) 2 c1] 27) = W0 := ⟨_, rfl⟩
    have hB0 : Below base w W0 := by rw [← hW0]; exact (Below.refl _ w).alloc hbase _
    have hBt : Below w.heap.size w W0 := by rw [← hW0]; exact (Below.refl _ w).alloc (Nat.le_refl _) _
    have hbox : W0.heap[w.heap.size]? = some (.cells #[.int .i64 n, .slice (some ⟨b, off, none⟩) 2 c1] 27 (0, 0)) := by rw [← hW0]; exact heap_alloc_new w _
    have hc := pleaf_any n (some ⟨b, off, none⟩) 2 c1 W0
    have hG0 := hg.below hBt (Nat.le_refl _)
    have HFC : Hid (∀ W, (Below base w W ∧ Lib.OthersKept 5 none W0 W) → W.cell? ⟨w.heap.size, 0, none⟩ = some (.int .i64 n) ∧ W.cell? ⟨w.heap.size, 1, none⟩ = some (.slice (some ⟨b, off, none⟩) 2 c1) ∧ W.cell? ⟨b, off, none⟩ = some (.int .i64 o1) ∧ W.cell? ⟨b, off + 1, none⟩ = some (.slice A1 n1 d1) ∧ W.cell? ⟨b, off + 2, none⟩ = some (.int .i64 o2) ∧ W.cell? ⟨b, off + 2 + 1, none⟩ = some (.slice A2 n2 d2)) := fun W hW => by
      have low : ∀ i, W.cell? ⟨b, i, none⟩ = w.cell? ⟨b, i, none⟩ := fun i => hW.1.cell hbb
      exact ⟨(kept2 hW.2 hbox).1, (kept2 hW.2 hbox).2, (low _).trans e1, (low _).trans e2, (low _).trans g1, (low _).trans g2⟩
    have HCI : Hid (∀ W A' c' L, L.length ≤ l.length + 1 → Below base w W → Gb W base A' c' L → Calls Tryz.prog 123 #[.slice A' L.length c', .int .i64 n, .int .i64 10] W (LaysB (L ++ Lib.itoa n) base W)) := fun W A' c' L hL hW hG => appendInt_any A' c' L n base W hG (Nat.le_trans hbase hW.size) hn.1 (by omega) (by omega) (htab.on hW)
    have HCX : Hid (∀ W A' c' L, L.length + 24 * x.nodes ≤ 1000000 → Below base w W → Gb W base A' c' L → Calls Tryz.prog 61 #[.slice A' L.length c', .agg #[.int .i64 o1, .slice A1 n1 d1]] W (LaysB (L ++ txt x) base W)) := fun W A' c' L hL hW hG => ihx (m - n) P A' c' L base _ W (e3.keep fun p _ hp hc => (hW.cell (hP _ hp)).trans hc) hP hok.2.1 (by omega) hL hG (Nat.le_trans hbase hW.size) (htab.on hW)
    have HCY : Hid (∀ W A' c' L, L.length + 24 * y.nodes ≤ 1000000 → Below base w W → Gb W base A' c' L → Calls Tryz.prog 61 #[.slice A' L.length c', .agg #[.int .i64 o2, .slice A2 n2 d2]] W (LaysB (L ++ txt y) base W)) := fun W A' c' L hL hW hG => ihy (m - n) P A' c' L base _ W (g3.keep fun p _ hp hc => (hW.cell (hP _ hp)).trans hc) hP hok.2.2 (by omega) hL hG (Nat.le_trans hbase hW.size) (htab.on hW)
    have HR : Hid (l ++ txt (.node n x y) = ((((((l ++ [40]) ++ Lib.itoa n) ++ [44]) ++ txt x) ++ [44]) ++ txt y) ++ [41]) := by show _ = _; simp [txt]
    obtain ⟨L1, hL1⟩ : ∃ L, (l ++ [40]) ++ Lib.itoa n = L := ⟨_, rfl⟩
    obtain ⟨L2, hL2⟩ : ∃ L, (L1 ++ [44]) ++ txt x = L := ⟨_, rfl⟩
    obtain ⟨L3, hL3⟩ : ∃ L, (L2 ++ [44]) ++ txt y = L := ⟨_, rfl⟩
    rw [hL1, hL2, hL3] at HR
    have hl1 : L1.length ≤ l.length + 21 := by rw [← hL1]; simp; omega
    have hl2 : L2.length ≤ L1.length + 1 + 24 * x.nodes := by rw [← hL2]; simp; omega
    have hl3 : L3.length ≤ L2.length + 1 + 24 * y.nodes := by rw [← hL3]; simp; omega
    have HL1 := Lib.hid hL1
    have HL2 := Lib.hid hL2
    have HL3 := Lib.hid hL3
    have HW0 := Lib.hid hW0
    have HB := Lib.hid hbase
    have HK0 : Hid (Lib.OthersKept 5 none w W0) := by show Lib.OthersKept _ _ _ _; rw [← hW0]; exact (Lib.OthersKept.refl _ _ w).alloc _
    have hp0 := (kept2 (Lib.OthersKept.refl 5 none W0) hbox)
    unfold tv at hc ⊢
    clear ihx ihy e1 e2 e3 g1 g2 g3 hW0 hok hg htab hbox hBt hL1 hL2 hL3 hlx hly hP
    obtain ⟨p0, p1⟩ := hp0
    go_enter Tryz.func61, Tryz.ntmps61
    go_wp2_with fail
    rw [HW0.out]
    refine hc.mono ?_
    rintro e w1 ⟨rfl, hb1⟩
    have hS0 : Below base w w1.drew ∧ Lib.OthersKept 5 none W0 w1.drew := ⟨(hB0.trans (hb1.mono (Nat.le_trans hbase hB0.size))).drew, ((Lib.OthersKept.refl 5 none W0).below hb1).drew⟩
    have HG1 : Hid (Gb w1.drew base A c l) := (hG0.below hb1 (Nat.le_refl _)).below ((Below.refl w1.heap.size w1).drew) (Nat.le_refl _)
    clear hc hb1 p0 p1 hB0 hG0
    go_wp2
    refine wp_region_held_drew (S := fun W => Below base w W ∧ Lib.OthersKept 5 none W0 W) (by kernel_rfl) hS0 (fun hS => ?_)
    clear hS0
    generalize w1.drew = wa at hS HG1 ⊢
    refine wpAnyH_take (i := 0) (v := ?_) rfl (by kernel_rfl) (by kernel_rfl) (by kernel_rfl) (fun _ _ _ h => h) (Yields.yieldsIf (Or.inl ⟨by kernel_rfl, ?_⟩)) hS ?_
    rotate_left
    · first | (intro w; go_simp; done) | (intro w; go_simp; with_reducible rfl)
    refine wpAnyH_take (i := 3) (v := ?_) rfl (by kernel_rfl) (by kernel_rfl) (by kernel_rfl) (fun _ _ _ h => h) (Yields.yieldsIf (Or.inl ⟨by kernel_rfl, ?_⟩)) hS ?_
    rotate_left
    · first | (intro w; go_simp; done) | (intro w; go_simp; with_reducible rfl)
    refine wpAnyH_take (i := 4) (v := ?_) rfl (by kernel_rfl) (by kernel_rfl) (by kernel_rfl) (fun _ _ _ h => h) (Or.inl ⟨by kernel_rfl, fun W hW => ?_⟩) hS ?_
    rotate_left
    · obtain ⟨f0, f1, f2, f3, f4, f5⟩ := HFC.out W hW
      first | (go_simp; done) | (go_simp; with_reducible rfl)
    obtain ⟨B3, d3, w3, hap, hg3, hb3, hk3⟩ := HG1.out.one 40 66 (by omega) (Nat.le_trans HB.out hS.1.size)
    have HAP := Lib.hid hap
    have HG3 := Lib.hid hg3
    have HS3 : Hid (Below base w w3 ∧ Lib.OthersKept 5 none W0 w3) := ⟨hS.1.trans hb3, hS.2.trans hk3⟩
    have HSa : Hid (Below base w (wa.alloc (.cells #[.int .u8 40] 5)) ∧ Lib.OthersKept 5 none W0 (wa.alloc (.cells #[.int .u8 40] 5))) := ⟨hS.1.alloc (Nat.le_trans HB.out hS.1.size) _, hS.2.alloc _⟩
    clear hap hg3 hb3 hk3 HG1 hS
    refine wpAnyH_ready (rs := [1]) (by kernel_rfl) (by simp) ?_
    refine AllReadyH.cons rfl (fun K hK => ?_) AllReadyH.nil
    go_simp
    refine hK.out _ _ HSa.out (fun hS => ?_)
    clear hK K HSa hS
    refine wpAnyH_ready (rs := [2]) (by kernel_rfl) (by simp) ?_
    refine AllReadyH.cons rfl (fun K hK => ?_) AllReadyH.nil
    refine oper_append_run _ _ _ _ rfl _ _ rfl rfl HAP.out ?_
    clear HAP
    go_simp
    refine hK.out _ _ HS3.out (fun hS => ?_)
    clear hK K HS3
    have hcall := HCI.out w3 B3 d3 (l ++ [40]) (by simp) hS.1 HG3.out
    rw [HL1.out] at hcall
    simp only [List.length_append, List.length_cons, List.length_nil, Nat.zero_add] at hcall
    clear HG3 HL1
    refine wpAnyH_ready (rs := [5]) (by kernel_rfl) (by simp) ?_
    refine AllReadyH.cons rfl (fun K hK => ?_) AllReadyH.nil
    go_simp
    go_wp2_with (go_at_call 123; refine hcall.mono ?_; rintro e w4 ⟨A4, c4, rfl, hgn, hbn, hkn⟩)
    have hS3 : Below base w w4 ∧ Lib.OthersKept 5 none W0 w4 := ⟨hS.1.trans hbn, hS.2.trans hkn⟩
    have HGn3 := Lib.hid hgn
    clear hcall hgn hbn hkn hS
    refine hK.out _ _ hS3 (fun hS => ?_)
    clear hK K hS3
    refine wpAnyH_take (i := 6) (v := ?_) rfl (by kernel_rfl) (by kernel_rfl) (by kernel_rfl) (fun _ _ _ h => h) (Yields.yieldsIf (Or.inl ⟨by kernel_rfl, ?_⟩)) hS ?_
    rotate_left
    · first | (intro w; go_simp; done) | (intro w; go_simp; with_reducible rfl)
    refine wpAnyH_done (by kernel_rfl) ?_ _
    have hS0 : Below base w w4.drew ∧ Lib.OthersKept 5 none W0 w4.drew := ⟨hS.1.drew, hS.2.drew⟩
    have HG1 : Hid (Gb w4.drew base A4 c4 L1) := HGn3.out.below ((Below.refl w4.heap.size w4).drew) (Nat.le_refl _)
    clear hS HGn3
    go_wp2
    refine wp_region_held_drew (S := fun W => Below base w W ∧ Lib.OthersKept 5 none W0 W) (by kernel_rfl) hS0 (fun hS => ?_)
    clear hS0
    generalize w4.drew = wb at hS HG1 ⊢
    refine wpAnyH_take (i := 0) (v := ?_) rfl (by kernel_rfl) (by kernel_rfl) (by kernel_rfl) (fun _ _ _ h => h) (Yields.yieldsIf (Or.inl ⟨by kernel_rfl, ?_⟩)) hS ?_
    rotate_left
    · first | (intro w; go_simp; done) | (intro w; go_simp; with_reducible rfl)
    refine wpAnyH_take (i := 3) (v := ?_) rfl (by kernel_rfl) (by kernel_rfl) (by kernel_rfl) (fun _ _ _ h => h) (Yields.yieldsIf (Or.inl ⟨by kernel_rfl, ?_⟩)) hS ?_
    rotate_left
    · first | (intro w; go_simp; done) | (intro w; go_simp; with_reducible rfl)
    refine wpAnyH_take (i := 4) (v := ?_) rfl (by kernel_rfl) (by kernel_rfl) (by kernel_rfl) (fun _ _ _ h => h) (Or.inl ⟨by kernel_rfl, fun W hW => ?_⟩) hS ?_
    rotate_left
    · obtain ⟨f0, f1, f2, f3, f4, f5⟩ := HFC.out W hW
      first | (go_simp; done) | (go_simp; with_reducible rfl)
    refine wpAnyH_take (i := 5) (v := ?_) rfl (by kernel_rfl) (by kernel_rfl) (by kernel_rfl) (fun _ _ _ h => h) (Yields.yieldsIf (Or.inl ⟨by kernel_rfl, ?_⟩)) hS ?_
    rotate_left
    · first | (intro w; go_simp; done) | (intro w; go_simp; with_reducible rfl)
    refine wpAnyH_take (i := 6) (v := ?_) rfl (by kernel_rfl) (by kernel_rfl) (by kernel_rfl) (fun _ _ _ h => h) (Or.inl ⟨by kernel_rfl, fun W hW => ?_⟩) hS ?_
    rotate_left
    · obtain ⟨f0, f1, f2, f3, f4, f5⟩ := HFC.out W hW
      first | (go_simp; done) | (go_simp; with_reducible rfl)
    obtain ⟨B4, d4, w6, hap, hg4, hb4, hk4⟩ := HG1.out.one 44 66 (by omega) (Nat.le_trans HB.out hS.1.size)
    have HAP := Lib.hid hap
    have HG4 := Lib.hid hg4
    have HS4 : Hid (Below base w w6 ∧ Lib.OthersKept 5 none W0 w6) := ⟨hS.1.trans hb4, hS.2.trans hk4⟩
    have HSa : Hid (Below base w (wb.alloc (.cells #[.int .u8 44] 5)) ∧ Lib.OthersKept 5 none W0 (wb.alloc (.cells #[.int .u8 44] 5))) := ⟨hS.1.alloc (Nat.le_trans HB.out hS.1.size) _, hS.2.alloc _⟩
    clear hap hg4 hb4 hk4 HG1 hS
    refine wpAnyH_ready (rs := [1]) (by kernel_rfl) (by simp) ?_
    refine AllReadyH.cons rfl (fun K hK => ?_) AllReadyH.nil
    go_simp
    refine hK.out _ _ HSa.out (fun hS => ?_)
    clear hK K HSa hS
    refine wpAnyH_ready (rs := [2]) (by kernel_rfl) (by simp) ?_
    refine AllReadyH.cons rfl (fun K hK => ?_) AllReadyH.nil
    refine oper_append_run _ _ _ _ rfl _ _ rfl rfl HAP.out ?_
    clear HAP
    go_simp
    refine hK.out _ _ HS4.out (fun hS => ?_)
    clear hK K HS4
    have hcall := HCX.out w6 B4 d4 (L1 ++ [44]) (by simp; omega) hS.1 HG4.out
    rw [HL2.out] at hcall
    simp only [List.length_append, List.length_cons, List.length_nil, Nat.zero_add] at hcall
    clear HG4 HL2
    refine wpAnyH_ready (rs := [7]) (by kernel_rfl) (by simp) ?_
    refine AllReadyH.cons rfl (fun K hK => ?_) AllReadyH.nil
    go_simp
    go_wp2_with (go_at_call 61; refine hcall.mono ?_; rintro e w5 ⟨A5, c5, rfl, hgn, hbn, hkn⟩)
    have hS3 : Below base w w5 ∧ Lib.OthersKept 5 none W0 w5 := ⟨hS.1.trans hbn, hS.2.trans hkn⟩
    have HGn4 := Lib.hid hgn
    clear hcall hgn hbn hkn hS
    refine hK.out _ _ hS3 (fun hS => ?_)
    clear hK K hS3
    refine wpAnyH_take (i := 8) (v := ?_) rfl (by kernel_rfl) (by kernel_rfl) (by kernel_rfl) (fun _ _ _ h => h) (Yields.yieldsIf (Or.inl ⟨by kernel_rfl, ?_⟩)) hS ?_
    rotate_left
    · first | (intro w; go_simp; done) | (intro w; go_simp; with_reducible rfl)
    refine wpAnyH_done (by kernel_rfl) ?_ _
    have hS0 : Below base w w5.drew ∧ Lib.OthersKept 5 none W0 w5.drew := ⟨hS.1.drew, hS.2.drew⟩
    have HG1 : Hid (Gb w5.drew base A5 c5 L2) := HGn4.out.below ((Below.refl w5.heap.size w5).drew) (Nat.le_refl _)
    clear hS HGn4
    go_wp2
    refine wp_region_held_drew (S := fun W => Below base w W ∧ Lib.OthersKept 5 none W0 W) (by kernel_rfl) hS0 (fun hS => ?_)
    clear hS0
    generalize w5.drew = wc at hS HG1 ⊢
    refine wpAnyH_take (i := 0) (v := ?_) rfl (by kernel_rfl) (by kernel_rfl) (by kernel_rfl) (fun _ _ _ h => h) (Yields.yieldsIf (Or.inl ⟨by kernel_rfl, ?_⟩)) hS ?_
    rotate_left
    · first | (intro w; go_simp; done) | (intro w; go_simp; with_reducible rfl)
    refine wpAnyH_take (i := 3) (v := ?_) rfl (by kernel_rfl) (by kernel_rfl) (by kernel_rfl) (fun _ _ _ h => h) (Yields.yieldsIf (Or.inl ⟨by kernel_rfl, ?_⟩)) hS ?_
    rotate_left
    · first | (intro w; go_simp; done) | (intro w; go_simp; with_reducible rfl)
    refine wpAnyH_take (i := 4) (v := ?_) rfl (by kernel_rfl) (by kernel_rfl) (by kernel_rfl) (fun _ _ _ h => h) (Or.inl ⟨by kernel_rfl, fun W hW => ?_⟩) hS ?_
    rotate_left
    · obtain ⟨f0, f1, f2, f3, f4, f5⟩ := HFC.out W hW
      first | (go_simp; done) | (go_simp; with_reducible rfl)
    refine wpAnyH_take (i := 5) (v := ?_) rfl (by kernel_rfl) (by kernel_rfl) (by kernel_rfl) (fun _ _ _ h => h) (Yields.yieldsIf (Or.inl ⟨by kernel_rfl, ?_⟩)) hS ?_
    rotate_left
    · first | (intro w; go_simp; done) | (intro w; go_simp; with_reducible rfl)
    refine wpAnyH_take (i := 6) (v := ?_) rfl (by kernel_rfl) (by kernel_rfl) (by kernel_rfl) (fun _ _ _ h => h) (Or.inl ⟨by kernel_rfl, fun W hW => ?_⟩) hS ?_
    rotate_left
    · obtain ⟨f0, f1, f2, f3, f4, f5⟩ := HFC.out W hW
      first | (go_simp; done) | (go_simp; with_reducible rfl)
    obtain ⟨B5, d5, w8, hap, hg5, hb5, hk5⟩ := HG1.out.one 44 66 (by omega) (Nat.le_trans HB.out hS.1.size)
    have HAP := Lib.hid hap
    have HG5 := Lib.hid hg5
    have HS5 : Hid (Below base w w8 ∧ Lib.OthersKept 5 none W0 w8) := ⟨hS.1.trans hb5, hS.2.trans hk5⟩
    have HSa : Hid (Below base w (wc.alloc (.cells #[.int .u8 44] 5)) ∧ Lib.OthersKept 5 none W0 (wc.alloc (.cells #[.int .u8 44] 5))) := ⟨hS.1.alloc (Nat.le_trans HB.out hS.1.size) _, hS.2.alloc _⟩
    clear hap hg5 hb5 hk5 HG1 hS
    refine wpAnyH_ready (rs := [1]) (by kernel_rfl) (by simp) ?_
    refine AllReadyH.cons rfl (fun K hK => ?_) AllReadyH.nil
    go_simp
    refine hK.out _ _ HSa.out (fun hS => ?_)
    clear hK K HSa hS
    refine wpAnyH_ready (rs := [2]) (by kernel_rfl) (by simp) ?_
    refine AllReadyH.cons rfl (fun K hK => ?_) AllReadyH.nil
    refine oper_append_run _ _ _ _ rfl _ _ rfl rfl HAP.out ?_
    clear HAP
    go_simp
    refine hK.out _ _ HS5.out (fun hS => ?_)
    clear hK K HS5
    have hcall := HCY.out w8 B5 d5 (L2 ++ [44]) (by simp; omega) hS.1 HG5.out
    rw [HL3.out] at hcall
    simp only [List.length_append, List.length_cons, List.length_nil, Nat.zero_add] at hcall
    clear HG5 HL3
    refine wpAnyH_ready (rs := [7]) (by kernel_rfl) (by simp) ?_
    refine AllReadyH.cons rfl (fun K hK => ?_) AllReadyH.nil
    go_simp
    go_wp2_with (go_at_call 61; refine hcall.mono ?_; rintro e w7 ⟨A7, c7, rfl, hgn, hbn, hkn⟩)
    have hS3 : Below base w w7 ∧ Lib.OthersKept 5 none W0 w7 := ⟨hS.1.trans hbn, hS.2.trans hkn⟩
    have HGn5 := Lib.hid hgn
    clear hcall hgn hbn hkn hS
    refine hK.out _ _ hS3 (fun hS => ?_)
    clear hK K hS3
    refine wpAnyH_take (i := 8) (v := ?_) rfl (by kernel_rfl) (by kernel_rfl) (by kernel_rfl) (fun _ _ _ h => h) (Yields.yieldsIf (Or.inl ⟨by kernel_rfl, ?_⟩)) hS ?_
    rotate_left
    · first | (intro w; go_simp; done) | (intro w; go_simp; with_reducible rfl)
    refine wpAnyH_done (by kernel_rfl) ?_ _
    obtain ⟨B9, d9, w9, hap, hg9, hb9, hk9⟩ := HGn5.out.one 41 66 (by omega) (Nat.le_trans HB.out hS.1.size)
    have HAP := Lib.hid hap
    have HG9 := Lib.hid hg9
    have HB9 : Hid (Below base w w9) := hS.1.trans hb9
    have HK9 : Hid (Lib.OthersKept 5 none w w9) := HK0.out.trans (hS.2.trans hk9)
    clear hap hg9 hb9 hk9 hS HGn5
    go_wp2_with (at_builtin; refine wpList_append_run rfl _ _ _ _ rfl _ _ rfl rfl HAP.out ?_; clear HAP)
    go_ret
    refine ⟨B9, d9, ?_, ?_, HB9.out, HK9.out⟩
    · rw [HR.out, List.length_append]; rfl
    · rw [HR.out]; exact HG9.out
end Go.Proofs.YtoaglkjpjolacaaGreatDoor.E
namespace Go.Proofs.YtoaglkjpjolacaaGreatDoor.E
open Go.RowKit
abbrev Tab (w : World) : Prop := Lib.TabIs Tryz.prog w "internal/strconv.uint64pow10" .u64 Lib.pow10Tab
theorem Tab.up {w w' : World} (h : Tab w) (hb : Below w.heap.size w w') : Tab w' := Lib.tabBelow_of_tabIs h w' hb
def strU (l : List UInt8) : ByteArray := ⟨l.toArray⟩
theorem run_strG {A : Option Addr} {c : Nat} {l : List UInt8} {w : World} {base : Nat} (h : Gb w base A c l) : (convert 66 9 (.slice A l.length c)).run Tryz.prog w = .ok (.string (strU l)) w := by
  rcases h.cases with ⟨rfl, rfl, rfl⟩ | ⟨g, cur, rfl, hb, hc, h1, h4⟩
  · exact run_convert_bytes_nil w 66 5 Tryz.underlying66 Tryz.underlying5 0 0 9 Tryz.underlying9
  · have := run_convert_bytes_arg (P := Tryz.prog) w 66 5 Tryz.underlying66 Tryz.underlying5 g 0 l.length c (l.map fun x => (x.toNat : Int)) (by simp) (fun i hi => by
      have e : (Lib.byteCells l)[i]? = some (.int .u8 ((l[i]'hi).toNat : Int)) := by simp [Lib.byteCells, hi]
      rw [Nat.zero_add, cell_of_row w g i cur 5 (0, 0) hc]
      rw [← h4, List.getElem?_take, if_pos hi] at e
      rw [show cur[i]? = cur.toList[i]? by simp, e]
      simp [hi]) 9 Tryz.underlying9
    have e : (l.map fun x => (x.toNat : Int)).map (fun n => UInt8.ofNat n.toNat) = l := by
      rw [List.map_map]
      conv => rhs; rw [← List.map_id l]
      exact List.map_congr_left fun x _ => by simp
    rw [this]
    unfold strOfNums strU
    rw [e]
def showR : Option Tr → Value
  | some t => .tuple #[.string (strU (txt t.norm)), .int .i64 0]
  | none => .tuple #[.string ⟨#[]⟩, .int .i64 2]
set_option maxRecDepth 100000 in
set_option maxHeartbeats 1600000 in
theorem show_arg {w : World} {T : Option Tr} {v : Value} (h : Arg w T v) (htab : Tab w) : Calls Tryz.prog 23 #[v] w fun e w' => e = .returned (showR T) ∧ Below w.heap.size w w' := by
  obtain ⟨o, A, n, c, rfl⟩ := h.form
  have HA := Lib.hid h
  have HTB := Lib.hid htab
  have HX := Lib.hid ((XS.begin w).boxed (.int .i64 o) (.slice A n c) 27)
  simp only [List.nil_append] at HX
  have hc1 := right_arg (h.up HX.out.bel)
  unfold tv at *
  clear h htab
  cases T with
  | none =>
    go_enter Tryz.func23, Tryz.ntmps23
    go_wp2_with fail
    refine hc1.mono ?_
    rintro e w1 ⟨rfl, hb1⟩
    have HX1 := Lib.hid (HX.out.next hb1)
    clear hb1 hc1 HX
    go_wp2
    refine bodyPost_ret (results_tmp2 rfl _ _ _) rfl ?_
    exact ⟨rfl, HX1.out.bel⟩
  | some t =>
    have hok := HA.out.inT.2
    have hokn := (okT_iff _).1 (okT_norm hok)
    go_enter Tryz.func23, Tryz.ntmps23
    go_wp2_with fail
    refine hc1.mono ?_
    rintro e w1 ⟨rfl, hb1⟩
    have HX1 := Lib.hid (HX.out.next hb1)
    clear hb1 hc1 HX
    have f := HX1.out.at0
    simp only [List.mem_cons, List.not_mem_nil, or_false, forall_eq_or_imp, forall_eq] at f
    obtain ⟨p0, p1⟩ := f
    have hc2 := norm_any t 4611686018427387904 _ _ w1 (HA.out.up HX1.out.bel).inT.1 ((okT_iff t).1 hok).2.1 (by omega)
    have HE : Hid (showR (some t) = .tuple #[.string (strU (txt t.norm)), .int .i64 0]) := rfl
    clear hok
    go_wp2_with fail
    refine hc2.mono ?_
    rintro e w3 ⟨v3, rfl, ht3, hb3⟩
    have HX3 := Lib.hid (HX1.out.next hb3)
    have hc3 := layText_any t.norm 4611686018427387904 _ none 0 [] w3.heap.size v3 w3 ht3.old (fun _ h => h) hokn.2.1 (by omega) (by simp; omega) (Gb.nil _ _) (Nat.le_refl _) (Lib.tabBelow_of_tabIs (HTB.out.up HX3.out.bel))
    rw [List.nil_append] at hc3
    obtain ⟨A3, n3, c3, rfl⟩ := ht3.form
    obtain ⟨X, hX⟩ : ∃ X, txt t.norm = X := ⟨_, rfl⟩
    rw [hX] at HE hc3
    simp only [List.length_nil] at hc3
    generalize t.norm.N = z at *
    clear hb3 ht3 hc2 HX1 p0 p1 hX hokn
    unfold tv at *
    go_wp2_with fail
    refine hc3.mono ?_
    rintro e w4 ⟨A4, c4, rfl, hg4, hb4, hk4⟩
    have HX4 := Lib.hid (HX3.out.next hb4)
    have hrun := run_strG hg4
    clear hc3 hb4 hk4 HX3 hg4
    go_wp2
    refine bodyPost_ret (results_tmp2 rfl _ _ _) rfl ?_
    exact ⟨by rw [HE.out]; rfl, HX4.out.bel⟩

end Go.Proofs.YtoaglkjpjolacaaGreatDoor.E
