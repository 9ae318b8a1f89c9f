/-
  The program's Show; the law's leaf, node, shown.
-/
import Derived.Test.YtflghlmikpfnpaaDoorEText
namespace Go.Proofs.YtflghlmikpfnpaaDoor.E
open Go.RowKit

abbrev Tab (w : World) : Prop := Lib.TabIs Tryd.prog w "internal/strconv.uint64pow10" .u64 Lib.pow10Tab
theorem Tab.up {w w' : World} (h : Tab w) (hb : Below w.heap.size w w') : Tab w' := Lib.tabBelow_of_tabIs h w' hb
def strU (l : List UInt8) : ByteArray := ⟨l.toArray⟩
theorem run_strG {A : Option Addr} {c : Nat} {l : List UInt8} {w : World} {base : Nat} (h : Gb w base A c l) : (convert 38 9 (.slice A l.length c)).run Tryd.prog w = .ok (.string (strU l)) w := by
  rcases h.cases with ⟨rfl, rfl, rfl⟩ | ⟨g, cur, rfl, hb, hc, h1, h4⟩
  · exact run_convert_bytes_nil w 38 5 Tryd.underlying38 Tryd.underlying5 0 0 9 Tryd.underlying9
  · have := run_convert_bytes_arg (P := Tryd.prog) w 38 5 Tryd.underlying38 Tryd.underlying5 g 0 l.length c (l.map fun x => (x.toNat : Int)) (by simp) (fun i hi => by
      have e : (Lib.byteCells l)[i]? = some (.int .u8 ((l[i]'hi).toNat : Int)) := by simp [Lib.byteCells, hi]
      rw [Nat.zero_add, cell_of_row w g i cur 5 (0, 0) hc]
      rw [← h4, List.getElem?_take, if_pos hi] at e
      rw [show cur[i]? = cur.toList[i]? by simp, e]
      simp [hi]) 9 Tryd.underlying9
    have e : (l.map fun x => (x.toNat : Int)).map (fun n => UInt8.ofNat n.toNat) = l := by
      rw [List.map_map]
      conv => rhs; rw [← List.map_id l]
      exact List.map_congr_left fun x _ => by simp
    rw [this]
    unfold strOfNums strU
    rw [e]
def showR : Option Tr → Value
  | some t => .tuple #[.string (strU (txt t.norm)), .int .i64 0]
  | none => .tuple #[.string ⟨#[]⟩, .int .i64 2]
set_option maxRecDepth 100000 in
set_option maxHeartbeats 1600000 in
theorem show_arg {w : World} {T : Option Tr} {v : Value} (h : Arg w T v) (htab : Tab w) : Calls Tryd.prog 25 #[v] w fun e w' => e = .returned (showR T) ∧ Below w.heap.size w w' := by
  obtain ⟨o, A, n, c, rfl⟩ := h.form
  have HA := Lib.hid h
  have HTB := Lib.hid htab
  have HX := Lib.hid ((XS.begin w).boxed (.int .i64 o) (.slice A n c) 24)
  simp only [List.nil_append] at HX
  have hc1 := right_arg (h.up HX.out.bel)
  unfold tv at *
  clear h htab
  cases T with
  | none =>
    go_enter Tryd.func25, Tryd.ntmps25
    go_wp2_with fail
    refine hc1.mono ?_
    rintro e w1 ⟨rfl, hb1⟩
    have HX1 := Lib.hid (HX.out.next hb1)
    clear hb1 hc1 HX
    go_wp2
    refine bodyPost_ret (results_tmp2 rfl _ _ _) rfl ?_
    exact ⟨rfl, HX1.out.bel⟩
  | some t =>
    have hok := HA.out.inT.2
    have hokn := (okT_iff _).1 (okT_norm hok)
    go_enter Tryd.func25, Tryd.ntmps25
    go_wp2_with fail
    refine hc1.mono ?_
    rintro e w1 ⟨rfl, hb1⟩
    have HX1 := Lib.hid (HX.out.next hb1)
    clear hb1 hc1 HX
    have f := HX1.out.at0
    simp only [List.mem_cons, List.not_mem_nil, or_false, forall_eq_or_imp, forall_eq] at f
    obtain ⟨p0, p1⟩ := f
    have hc2 := norm_any t 4611686018427387904 _ _ w1 (HA.out.up HX1.out.bel).inT.1 ((okT_iff t).1 hok).2.1 (by omega)
    have HE : Hid (showR (some t) = .tuple #[.string (strU (txt t.norm)), .int .i64 0]) := rfl
    clear hok
    go_wp2_with fail
    refine hc2.mono ?_
    rintro e w3 ⟨v3, rfl, ht3, hb3⟩
    have HX3 := Lib.hid (HX1.out.next hb3)
    have hc3 := layText_any t.norm 4611686018427387904 _ none 0 [] w3.heap.size v3 w3 ht3.old (fun _ h => h) hokn.2.1 (by omega) (by simp; omega) (Gb.nil _ _) (Nat.le_refl _) (Lib.tabBelow_of_tabIs (HTB.out.up HX3.out.bel))
    rw [List.nil_append] at hc3
    obtain ⟨A3, n3, c3, rfl⟩ := ht3.form
    obtain ⟨X, hX⟩ : ∃ X, txt t.norm = X := ⟨_, rfl⟩
    rw [hX] at HE hc3
    simp only [List.length_nil] at hc3
    generalize t.norm.N = z at *
    clear hb3 ht3 hc2 HX1 p0 p1 hX hokn
    unfold tv at *
    go_wp2_with fail
    refine hc3.mono ?_
    rintro e w4 ⟨A4, c4, rfl, hg4, hb4, hk4⟩
    have HX4 := Lib.hid (HX3.out.next hb4)
    have hrun := run_strG hg4
    clear hc3 hb4 hk4 HX3 hg4
    go_wp2
    refine bodyPost_ret (results_tmp2 rfl _ _ _) rfl ?_
    exact ⟨by rw [HE.out]; rfl, HX4.out.bel⟩

set_option maxRecDepth 100000 in
theorem lleaf_any (n : Int) (w : World) : Calls Tryd.prog 34 #[.int .i64 n] w fun e w' => e = .returned (tv n none 0 0) ∧ Below w.heap.size w w' := by
  go_enter Tryd.func34, Tryd.ntmps34
  go_wp2
  refine bodyPost_ret (v := tv n none 0 0) (by simp [results, Tryd.f34, go_sem, tv]) rfl ?_
  exact ⟨rfl, (Below.refl _ w).alloc (Nat.le_refl _) _⟩
set_option maxRecDepth 100000 in
set_option maxHeartbeats 800000 in
theorem lnode_any (n : Int) (x y : Tr) (u v : Value) (w : World) (hx : InT w w.heap.size x u) (hy : InT w w.heap.size y v) : Calls Tryd.prog 33 #[.int .i64 n, u, v] w fun e w' => ∃ v', e = .returned v' ∧ InT w' w'.heap.size (.node n x y) v' ∧ Below w.heap.size w w' := by
  obtain ⟨A1, n1, c1, rfl⟩ := hx.form
  obtain ⟨A2, n2, c2, rfl⟩ := hy.form
  have HX := Lib.hid hx
  have HY := Lib.hid hy
  clear hx hy
  generalize x.N = o1 at *
  generalize y.N = o2 at *
  unfold tv
  go_enter Tryd.func33, Tryd.ntmps33
  go_wp2
  refine bodyPost_ret (v := tv n (some ⟨w.heap.size + 1 + 1 + 1, 0, none⟩) 2 2) (by simp [results, Tryd.f33, go_sem, tv]) rfl ?_
  have hb := four_boxes w (.cells #[.int .i64 o1, .slice A1 n1 c1] 24) (.cells #[.int .i64 o2, .slice A2 n2 c2] 24) (.cells #[.int .i64 n, .slice (some ⟨w.heap.size + 1 + 1 + 1, 0, none⟩) 2 2] 24) (.cells #[.int .i64 o1, .slice A1 n1 c1, .int .i64 o2, .slice A2 n2 c2] 24)
  refine ⟨_, rfl, two_in (P := Lt w.heap.size) ?_ (HX.out.below hb) (HY.out.below hb) (fun b h => Nat.lt_of_lt_of_le h hb.size) ?_, hb⟩
  · have := heap_alloc_new (((w.alloc (.cells #[.int .i64 o1, .slice A1 n1 c1] 24)).alloc (.cells #[.int .i64 o2, .slice A2 n2 c2] 24)).alloc (.cells #[.int .i64 n, .slice (some ⟨w.heap.size + 1 + 1 + 1, 0, none⟩) 2 2] 24)) (.cells #[.int .i64 o1, .slice A1 n1 c1, .int .i64 o2, .slice A2 n2 c2] 24)
    simpa only [World.size_alloc] using this
  · show _ < _; simp
def tA : Tr := .node 1 (.leaf 2) (.node 0 (.leaf 3) (.leaf 1))
def tB : Tr := .node 0 (.leaf 1) (.leaf 0)
def tC : Tr := .node 0 (.leaf 0) (.leaf 2)
theorem okA : fit tA = some tA := fit_of (by decide +kernel)
theorem okB : fit tB = some tB := fit_of (by decide +kernel)
theorem okC : fit tC = some tC := fit_of (by decide +kernel)
theorem txA : txt tA.norm = [40, 50, 44, 49, 44, 40, 48, 44, 50, 44, 48, 41, 41] := by decide +kernel
def tD : Tr := .node 1 (.leaf 0) (.leaf 1)
theorem joD : Tr.join tB tC 0 0 = tD := (eqT_iff _ _).1 (by decide +kernel)
theorem okD : okT tD = true := by decide +kernel
theorem txD : txt tD.norm = [40, 49, 44, 48, 44, 49, 41] := by decide +kernel
theorem shA : showR (fit tA) = .tuple #[.string ⟨#[40, 50, 44, 49, 44, 40, 48, 44, 50, 44, 48, 41, 41]⟩, .int .i64 0] := by rw [okA, showR, txA]; rfl
theorem joR : joinR (fit tB) (fit tC) = (tD, 0) := by rw [okB, okC]; simp only [joinR, joD, okD, if_true]
theorem shD : showR (fit tD) = .tuple #[.string ⟨#[40, 49, 44, 48, 44, 49, 41]⟩, .int .i64 0] := by rw [fit_of okD, showR, txD]; rfl
end Go.Proofs.YtflghlmikpfnpaaDoor.E
