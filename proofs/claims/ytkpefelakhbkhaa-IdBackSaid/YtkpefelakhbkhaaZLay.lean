/-
  What the program's Lay keeps while it goes through the nodes.
  The four variables of the program's Lay, behind a round's stores.
  The program's Lay.
  The program's Lay, for whatever is handed in.
-/
import Derived.Test.YtkpefelakhbkhaaZNodes
import Derived.Test.YtkpefelakhbkhaaZRLay
import Derived.Test.YtkpefelakhbkhaaIRight
import Derived.OrdersHeld
namespace Go.Proofs.Ytkpefelakhbkhaa.I
open Go.RowKit Go.Shelf
attribute [local go_sem] Oper.semAt_some

/-- A right tree in blocks with a property, as trees that came in are. -/
theorem unP {P : Nat → Prop} {w : World} {B : Nat} : ∀ {t : Tr} {v : Value}, InP P w B t v → ∃ (o : Bool) (ks : Fo) (A : Option Addr) (c : Nat), v = tv o A ks.len c ∧ KdP P w B ks A ∧ (trees ks).bind (one o) = some t
  | .leaf o, _, ⟨A, c, rfl⟩ => ⟨o, .nil, A, c, rfl, .inl rfl, rfl⟩
  | .node x y, _, ⟨b, off, c, rfl, hb, ⟨o1, A1, n1, c1, h1, h2, h3⟩, ⟨o2, A2, n2, c2, g1, g2, g3⟩⟩ => by
    obtain ⟨p1, k1, B1, d1, e1, kd1, t1⟩ := unP h3
    obtain ⟨p2, k2, B2, d2, e2, kd2, t2⟩ := unP g3
    unfold tv at e1 e2
    simp only [Value.agg.injEq, Array.mk.injEq, List.cons.injEq, Value.bool.injEq, Value.slice.injEq, and_true] at e1 e2
    obtain ⟨rfl, rfl, rfl, rfl⟩ := e1
    obtain ⟨rfl, rfl, rfl, rfl⟩ := e2
    refine ⟨false, .cons o1 k1 (.cons o2 k2 .nil), _, c, rfl, .inr ⟨b, off, rfl, hb, ⟨A1, c1, h1, h2, kd1⟩, ⟨A2, c2, g1, g2, kd2⟩, trivial⟩, ?_⟩
    obtain ⟨l1, hl1, ht1⟩ := Option.bind_eq_some_iff.1 t1
    obtain ⟨l2, hl2, ht2⟩ := Option.bind_eq_some_iff.1 t2
    have e2 : trees (.cons o2 k2 .nil) = some [y] := by simp only [trees, hl2, Option.bind_some, ht2, Option.map_some]
    have e1 : trees (.cons o1 k1 (.cons o2 k2 .nil)) = some [x, y] := by
      have e : trees (.cons o1 k1 (.cons o2 k2 .nil)) = (trees k1).bind fun k => (one o1 k).bind fun t => (trees (.cons o2 k2 .nil)).map (t :: ·) := rfl
      rw [e, e2, hl1, Option.bind_some, ht1, Option.bind_some, Option.map_some]
    rw [e1]
    rfl
/-- The four variables, and what they hold: bytes that were laid, and a word that gathers. -/
structure LV (w : World) (gb gn gw gm : Nat) (l : List Nat) (n : Nat) (dn bs : List Nat) (A : Option Addr) (c v m : Nat) (V : World) : Prop where
  fb : Boxed V gb 40 (.slice A (M.putL l n dn).length c)
  fn : Boxed V gn 3 (.int .i64 ((n + dn.length : Nat) : Int))
  fw : Boxed V gw 53 (.int .u64 (v : Int))
  fm : Boxed V gm 3 (.int .i64 (m : Int))
  row : BR V V.heap.size A (M.putL l n dn)
  word : Word v m bs
  bel : Below w.heap.size w V
def LB (w : World) (gb gn gw gm : Nat) (l : List Nat) (n : Nat) (K : List Nat) (V : World) : Prop := ∃ dn bs A c v m, LV w gb gn gw gm l n dn bs A c v m V ∧ dn ++ bs = K
theorem BR.kept {V V' : World} {row : Option Nat} {A : Option Addr} {l : List Nat} (h : BR V V.heap.size A l) (hg : V.grownBy V' row) (hr : ∀ r, row = some r → ∃ o : Obj, V.heap[r]? = some o ∧ o.isCells = false) : BR V' V'.heap.size A l :=
  ⟨h.1, fun hn => by
    obtain ⟨b, off, e, hb, hc⟩ := h.2 hn
    exact ⟨b, off, e, Nat.lt_of_lt_of_le hb hg.size, fun j hj => cell_kept (hc j hj) hg hr⟩⟩
theorem LB.own (w : World) (gb gn gw gm : Nat) (l : List Nat) (n L : Nat) (hL : w.heap.size ≤ L) (f : List It → List Nat) : OwnFrom L (fun q V => LB w gb gn gw gm l n (f q) V) := by
  rintro q V V' row ⟨dn, bs, A, c, v, m, h, e⟩ hg hr
  have h1 := (OwnFrom.and ((boxed_own gb 40 (fun _ : Unit => (.slice A (M.putL l n dn).length c))).from L) (OwnFrom.and ((boxed_own gn 3 (fun _ : Unit => (.int .i64 ((n + dn.length : Nat) : Int)))).from L) (OwnFrom.and ((boxed_own gw 53 (fun _ : Unit => (.int .u64 (v : Int)))).from L) (OwnFrom.and ((boxed_own gm 3 (fun _ : Unit => (.int .i64 (m : Int)))).from L) (ownFrom_below (w₀ := w) (Nat.le_refl _) hL))))) () V V' row ⟨h.fb, h.fn, h.fw, h.fm, h.bel⟩ hg hr
  exact ⟨dn, bs, A, c, v, m, ⟨h1.1, h1.2.1, h1.2.2.1, h1.2.2.2.1, BR.kept h.row hg (fun r e => (hr r e).2), h.word, h1.2.2.2.2⟩, e⟩
end Go.Proofs.Ytkpefelakhbkhaa.I

namespace Go.Proofs.Ytkpefelakhbkhaa.I
open Go.RowKit Go.Shelf
attribute [local go_sem] Oper.semAt_some

/-- A region that draws its order inside a round, at the wide fence, by what holds in every world that is met. -/
theorem region_heldIn {y n : Nat} {P : Program} {Q : Exit → Act → World → Prop} {id : Nat} {a : Act} {w : World} {l : List Oper} (S : World → Prop) (hm : P.follows .mixedOrders = true)
    (hd : (l.all fun o => match o.op with | .defer _ => false | _ => true) = true) (hq : ∀ a w, ¬ Q .outgrown a w)
    (h : wpAnyH P .any l.toArray Q S l.length (Array.replicate l.length false) a w.drew) : (Code.region id l.toArray true).wpIn (Fence.wide.inRound y) n P Q a w :=
  wpIn_region_any hm (anyIn_of (noDefers l hd) hq _ _ _ _ (by simpa using wpAny_of_held _ _ _ _ h))

/-- A row of bytes does not lie in a box of something else. -/
theorem BR.box {W : World} {A : Option Addr} {l : List Nat} {g : Nat} {t : TypeId} {v : Value} (h : BR W W.heap.size A l) (hb : Boxed W g t v) (hv : ∀ x, v ≠ .int .u8 x) (u : Value) : BR (W.setCell ⟨g, 0, none⟩ u) (W.setCell ⟨g, 0, none⟩ u).heap.size A l := by
  have hk : Kept (fun k => k = g) W (W.setCell ⟨g, 0, none⟩ u) := Kept.setCell (X := fun k => k = g) (Kept.refl _ W) (p := ⟨g, 0, none⟩) rfl u
  refine ⟨h.1, fun hn => ?_⟩
  obtain ⟨b, off, e, hlt, hc⟩ := h.2 hn
  refine ⟨b, off, e, Nat.lt_of_lt_of_le hlt hk.size, fun j hj => hk.cell (fun hbg => ?_) (hc j hj)⟩
  simp only at hbg
  subst hbg
  have h1 := hc j hj
  simp only [World.cell?, show W.heap[b]? = _ from hb] at h1
  by_cases h0 : off + j = 0
  · simp [h0] at h1
    exact hv _ h1
  · have e1 : ¬ off + j < (#[v] : Array Value).size := by simp; omega
    rw [Array.getElem?_eq_none (by omega)] at h1
    simp at h1
structure Apt (w : World) (gb gn gw gm : Nat) : Prop where
  d1 : gb ≠ gn
  d2 : gb ≠ gw
  d3 : gb ≠ gm
  d4 : gn ≠ gw
  d5 : gn ≠ gm
  d6 : gw ≠ gm
  g1 : w.heap.size ≤ gb
  g2 : w.heap.size ≤ gn
  g3 : w.heap.size ≤ gw
  g4 : w.heap.size ≤ gm
variable {w U : World} {gb gn gw gm : Nat} {l : List Nat} {n : Nat} {dn bs : List Nat} {A : Option Addr} {c v m : Nat}
theorem LV.drew (h : LV w gb gn gw gm l n dn bs A c v m U) : LV w gb gn gw gm l n dn bs A c v m U.drew := ⟨h.fb, h.fn, h.fw, h.fm, h.row, h.word, h.bel.drew⟩
theorem LV.up {U' : World} (h : LV w gb gn gw gm l n dn bs A c v m U) (hb : Below U.heap.size U U') : LV w gb gn gw gm l n dn bs A c v m U' :=
  ⟨boxed_below h.fb hb h.fb.lt, boxed_below h.fn hb h.fn.lt, boxed_below h.fw hb h.fw.lt, boxed_below h.fm hb h.fm.lt, BR.up h.row hb, h.word, h.bel.trans (hb.mono h.bel.size)⟩
/-- Behind a code that was put to the word. -/
theorem LV.gather (h : LV w gb gn gw gm l n dn bs A c v m U) (ha : Apt w gb gn gw gm) {v' m' : Nat} {bs' : List Nat} (hw : Word v' m' bs') :
    LV w gb gn gw gm l n dn bs' A c v' m' ((U.setCell ⟨gw, 0, none⟩ (.int .u64 (v' : Int))).setCell ⟨gm, 0, none⟩ (.int .i64 (m' : Int))) := by
  have r1 := BR.box h.row h.fw (fun _ e => by cases e) (.int .u64 (v' : Int))
  have m1 := Go.Proofs.Ytkpefelakhbkhaa.boxed_far h.fm (p := ⟨gw, 0, none⟩) (fun e => ha.d6 e.symm) (.int .u64 (v' : Int))
  refine ⟨?_, ?_, ?_, m1.set _, BR.box r1 m1 (fun _ e => by cases e) _, hw, ?_⟩
  · exact Go.Proofs.Ytkpefelakhbkhaa.boxed_far (Go.Proofs.Ytkpefelakhbkhaa.boxed_far h.fb (p := ⟨gw, 0, none⟩) ha.d2 _) (p := ⟨gm, 0, none⟩) ha.d3 _
  · exact Go.Proofs.Ytkpefelakhbkhaa.boxed_far (Go.Proofs.Ytkpefelakhbkhaa.boxed_far h.fn (p := ⟨gw, 0, none⟩) ha.d4 _) (p := ⟨gm, 0, none⟩) ha.d5 _
  · exact Go.Proofs.Ytkpefelakhbkhaa.boxed_far (h.fw.set _) (p := ⟨gm, 0, none⟩) ha.d6 _
  · exact (h.bel.setCell (p := ⟨gw, 0, none⟩) ha.g3 _).setCell (p := ⟨gm, 0, none⟩) ha.g4 _
/-- Behind bytes that were laid. -/
theorem LV.flush {U' : World} {A' : Option Addr} {c' : Nat} (h : LV w gb gn gw gm l n dn bs A c v m U) (ha : Apt w gb gn gw gm) (hb : Below U.heap.size U U') (hr : BR U' U'.heap.size A' (M.putL l n (dn ++ bs))) :
    LV w gb gn gw gm l n (dn ++ bs) bs A' c' v m ((U'.setCell ⟨gb, 0, none⟩ (.slice A' (M.putL l n (dn ++ bs)).length c')).setCell ⟨gn, 0, none⟩ (.int .i64 ((n + (dn ++ bs).length : Nat) : Int))) := by
  have h1 := h.up hb
  have r1 := BR.box hr h1.fb (fun _ e => by cases e) (.slice A' (M.putL l n (dn ++ bs)).length c')
  have m1 := Go.Proofs.Ytkpefelakhbkhaa.boxed_far h1.fn (p := ⟨gb, 0, none⟩) (fun e => ha.d1 e.symm) (.slice A' (M.putL l n (dn ++ bs)).length c')
  refine ⟨?_, m1.set _, ?_, ?_, BR.box r1 m1 (fun _ e => by cases e) _, h1.word, ?_⟩
  · exact Go.Proofs.Ytkpefelakhbkhaa.boxed_far (h1.fb.set _) (p := ⟨gn, 0, none⟩) ha.d1 _
  · exact Go.Proofs.Ytkpefelakhbkhaa.boxed_far (Go.Proofs.Ytkpefelakhbkhaa.boxed_far h1.fw (p := ⟨gb, 0, none⟩) (fun e => ha.d2 e.symm) _) (p := ⟨gn, 0, none⟩) (fun e => ha.d4 e.symm) _
  · exact Go.Proofs.Ytkpefelakhbkhaa.boxed_far (Go.Proofs.Ytkpefelakhbkhaa.boxed_far h1.fm (p := ⟨gb, 0, none⟩) (fun e => ha.d3 e.symm) _) (p := ⟨gn, 0, none⟩) (fun e => ha.d5 e.symm) _
  · exact (h1.bel.setCell (p := ⟨gb, 0, none⟩) ha.g1 _).setCell (p := ⟨gn, 0, none⟩) ha.g2 _
end Go.Proofs.Ytkpefelakhbkhaa.I

namespace Go.Proofs.Ytkpefelakhbkhaa.I
open Go.RowKit Go.Shelf
attribute [local go_sem] Oper.semAt_some

theorem BR.put {W : World} {A : Option Addr} {l : List Nat} {D : Nat} {x : Option (List Deferred)} (h : BR W W.heap.size A l) (hD : W.heap[D]? = some (.deferred x)) (o' : Obj) : BR (W.putObj D o') (W.putObj D o').heap.size A l := by
  have hk : Kept (fun k => k = D) W (W.putObj D o') := Kept.putObj (X := fun k => k = D) rfl o'
  refine ⟨h.1, fun hn => ?_⟩
  obtain ⟨b, off, e, hb, hc⟩ := h.2 hn
  refine ⟨b, off, e, Nat.lt_of_lt_of_le hb hk.size, fun j hj => hk.cell (fun hbD => ?_) (hc j hj)⟩
  obtain ⟨ob, ho, hcl⟩ := cells_of_cell (hc j hj)
  simp only at hbD ho
  rw [hbD, hD] at ho
  injection ho with ho
  subst ho
  cases hcl
theorem flat_prefix {a b : List (Bool × Nat × Int)} (h : a <+: b) : (a.flatMap codeK).length ≤ (b.flatMap codeK).length := by
  obtain ⟨r, rfl⟩ := h
  rw [List.flatMap_append, List.length_append]; omega
theorem walk_lim {o : Bool} {ks : Fo} {t : Tr} (ht : (trees ks).bind (one o) = some t) {q : List It} {x : It} (hq : q.map It.key ++ [x.key] <+: walkT o ks 0) : (x.n = 0 ∨ x.n = 2) ∧ ((q.map It.key).flatMap codeK).length + (codeK x.key).length ≤ (bitsT t).length := by
  obtain ⟨k, hk, h1⟩ := Option.bind_eq_some_iff.1 ht
  constructor
  · have hm : x.key ∈ walkT o ks 0 := hq.subset (List.mem_append_right _ (List.mem_singleton.2 rfl))
    unfold walkT at hm
    rcases List.mem_cons.1 hm with hm | hm
    · have e : x.n = ks.len := congrArg (fun k => k.2.1) hm
      rw [e, ← trees_len ks k hk]; exact one_len o k t h1
    · exact (walkK_only false ks k (nx 0) hk).2 _ hm
  · have := flat_prefix hq
    rw [walkT_code 0 ht, List.flatMap_append, List.length_append] at this
    simpa using this
theorem cell_far {W : World} {B C : Nat} {u v : Value} (hne : B ≠ C) (h : W.cell? ⟨C, 0, none⟩ = some u) : (W.setCell ⟨B, 0, none⟩ v).cell? ⟨C, 0, none⟩ = some u :=
  (World.cell?_setCell_other _ _ _ _ (fun e => by injection e; omega)).trans h
theorem codeK_lt (k : Bool × Nat × Int) : ∀ b ∈ codeK k, b < 2 := by
  intro b hb
  unfold codeK at hb
  split at hb
  · exact bits_lt _ b hb
  · simp at hb; omega
set_option maxRecDepth 100000 in
set_option maxHeartbeats 6400000 in
theorem lay_main (A : Option Addr) (c : Nat) (l : List Nat) (n : Nat) (t : Tr) (v : Value) (w : World) (hr : BR w w.heap.size A l) (hl : l.length ≤ 140737488351232) (hV : M.Valid l n) (hv : Arg w (some t) v) :
    Calls Try.prog 32 #[.slice A l.length c, .int .i64 (n : Int), v] w (AnsB (some (M.putL l n (bitsT t.norm), n + (bitsT t.norm).length)) w) := by
  obtain ⟨o, B, m, d, rfl⟩ := hv.form
  have hN : n ≤ 1125899906842624 := by have := hV.1; omega
  have hbW : Below w.heap.size w (((w.alloc (.cells #[.slice A l.length c] 40)).alloc (.cells #[.int .i64 (n : Int)] 3)).alloc (.cells #[.bool o, .slice B m d] 24)) := three_boxes w _ _ _
  have hcr := Go.Proofs.Ytkpefelakhbkhaa.right_any A c l (n : Int) (((w.alloc (.cells #[.slice A l.length c] 40)).alloc (.cells #[.int .i64 (n : Int)] 3)).alloc (.cells #[.bool o, .slice B m d] 24)) _ (BR.up hr hbW) (by omega) (by omega) (by omega)
  rw [M.rightB_nat hV] at hcr
  have hct := right_arg (hv.up hbW)
  have HV := Lib.hid hv
  have HR := Lib.hid hr
  have HVA := Lib.hid hV
  have HBW := Lib.hid hbW
  simp only [Option.isSome_some] at hct
  have hcr := (callsIn_wide (n := 2)).2 hcr
  have hct := (callsIn_wide (n := 2)).2 hct
  clear hv hr hV hbW
  refine (callsIn_wide (n := 3)).1 ?_
  unfold tv at hct ⊢
  refine callsIn_of_wp_marks Try.func32 rfl trivial ?_ rfl
  simp only [Try.ntmps32, List.size_toArray, List.length_cons, List.length_nil, Nat.reduceAdd, Nat.reduceSub, Array.replicate_succ, Array.replicate_zero, List.push_toArray, List.append_toArray, List.nil_append, List.cons_append]
  gi_wp2_with (refine ⟨trivial, ?_⟩; gi_at_call 53; refine hcr.mono ?_; clear hcr; rintro e w' ⟨rfl, rfl⟩)
  refine ⟨trivial, hct.mono ?_⟩
  clear hct
  rintro e w1 ⟨rfl, hb1⟩
  obtain ⟨W0, hW0⟩ : ∃ W0, ((w.alloc (.cells #[.slice A l.length c] 40)).alloc (.cells #[.int .i64 (n : Int)] 3)).alloc (.cells #[.bool o, .slice B m d] 24) = W0 := ⟨_, rfl⟩
  have hs0 : W0.heap.size = w.heap.size + 3 := by rw [← hW0]; simp
  have k0 : Boxed W0 w.heap.size 40 (.slice A l.length c) := by rw [← hW0]; exact ((Boxed.new w 40 _).alloc _).alloc _
  have k1 : Boxed W0 (w.heap.size + 1) 3 (.int .i64 (n : Int)) := by
    rw [← hW0]
    have := Boxed.new (w.alloc (.cells #[.slice A l.length c] 40)) 3 (.int .i64 (n : Int))
    rw [World.size_alloc] at this
    exact this.alloc _
  have k2 : W0.cell? ⟨w.heap.size + 2, 0, none⟩ = some (.bool o) ∧ W0.cell? ⟨w.heap.size + 2, 1, none⟩ = some (.slice B m d) := by rw [← hW0]; exact ⟨by simp [go_sem], by simp [go_sem]⟩
  rw [hW0] at hb1 HBW
  have hb1w : Below w.heap.size w w1 := HBW.out.trans (hb1.mono HBW.out.size)
  have j0 := boxed_below k0 hb1 k0.lt
  have j1 := boxed_below k1 hb1 k1.lt
  have t0 := (hb1.cell (p := ⟨w.heap.size + 2, 0, none⟩) (by show w.heap.size + 2 < _; omega)).trans k2.1
  have t1 := (hb1.cell (p := ⟨w.heap.size + 2, 1, none⟩) (by show w.heap.size + 2 < _; omega)).trans k2.2
  have hs1 : w.heap.size + 3 ≤ w1.heap.size := by have := hb1.size; omega
  clear hW0 k0 k1 k2 hb1 HBW
  have hnb : Below w1.heap.size w1 ((w1.alloc (.cells #[.int .u64 0] 53)).alloc (.cells #[.int .i64 0] 3)) := ((Below.refl _ w1).alloc (Nat.le_refl _) _).alloc (by simp) _
  have hcn := (callsIn_wide (n := 2)).2 (norm_new (fun k => w1.heap.size + 2 ≤ k) t _ ((w1.alloc (.cells #[.int .u64 0] 53)).alloc (.cells #[.int .i64 0] 3)) (fun k hk => by simpa using hk) ((HV.out.up hb1w).up hnb).inT.1)
  have t2 : ((w1.alloc (.cells #[.int .u64 0] 53)).alloc (.cells #[.int .i64 0] 3)).cell? ⟨w.heap.size + 1 + 1, 0, none⟩ = some (.bool o) := (hnb.cell (p := ⟨w.heap.size + 2, 0, none⟩) (by show w.heap.size + 2 < _; omega)).trans t0
  have t3 : ((w1.alloc (.cells #[.int .u64 0] 53)).alloc (.cells #[.int .i64 0] 3)).cell? ⟨w.heap.size + 1 + 1, 1, none⟩ = some (.slice B m d) := (hnb.cell (p := ⟨w.heap.size + 2, 1, none⟩) (by show w.heap.size + 2 < _; omega)).trans t1
  unfold tv at hcn
  gi_wp2_with (refine ⟨trivial, ?_⟩; gi_at_call 36; refine hcn.mono ?_; clear hcn; rintro e w3 ⟨v3, rfl, h3, hb3⟩)
  obtain ⟨o3, ks, A3, c3, rfl, hkd, htr⟩ := unP h3
  have HCODE := Lib.hid (walkT_code 0 htr)
  refine ⟨trivial, (nodes_in _ o3 A3 ks.len c3 0 w3).mono ?_⟩
  rintro e w' ⟨rfl, rfl⟩
  have hb3w : Below w.heap.size w w3 := (hb1w.trans (hnb.mono hb1w.size)).trans (hb3.mono (by have := hb1w.size; simp; omega))
  have i0 := boxed_below ((j0.alloc (.cells #[.int .u64 0] 53)).alloc (.cells #[.int .i64 0] 3)) hb3 (by simp; omega)
  have i1 := boxed_below ((j1.alloc (.cells #[.int .u64 0] 53)).alloc (.cells #[.int .i64 0] 3)) hb3 (by simp; omega)
  have i2 := boxed_below ((Boxed.new w1 53 (.int .u64 0)).alloc (.cells #[.int .i64 0] 3)) hb3 (by simp; omega)
  have i3 := boxed_below (Boxed.new (w1.alloc (.cells #[.int .u64 0] 53)) 3 (.int .i64 0)) hb3 (by simp)
  rw [World.size_alloc] at i3
  have hs3 : w1.heap.size + 2 ≤ w3.heap.size := by have := hb3.size; simp at this; omega
  obtain ⟨W4, hW4⟩ : ∃ W4, (w3.alloc (.cells #[.bool o3, .slice A3 ks.len c3] 24)).alloc (.cells #[.int .i64 0] 3) = W4 := ⟨_, rfl⟩
  have hs4 : W4.heap.size = w3.heap.size + 2 := by rw [← hW4]; simp
  have hb4 : Below w3.heap.size w3 W4 := by rw [← hW4]; exact ((Below.refl _ w3).alloc (Nat.le_refl _) _).alloc (by simp) _
  have a0 : W4.cell? ⟨w3.heap.size, 0, none⟩ = some (.bool o3) := by rw [← hW4]; simp [go_sem]
  have a1 : W4.cell? ⟨w3.heap.size, 1, none⟩ = some (.slice A3 ks.len c3) := by rw [← hW4]; simp [go_sem]
  have a2 : W4.cell? ⟨w3.heap.size + 1, 0, none⟩ = some (.int .i64 0) := by rw [← hW4]; simp [go_sem]
  have hb4w : Below w.heap.size w W4 := hb3w.trans (hb4.mono hb3w.size)
  have HL0 : Hid (LB w w.heap.size (w.heap.size + 1) w1.heap.size (w1.heap.size + 1) l n [] W4) :=
    ⟨[], [], A, c, 0, 0, ⟨boxed_below i0 hb4 i0.lt, boxed_below i1 hb4 i1.lt, boxed_below i2 hb4 i2.lt, boxed_below i3 hb4 i3.lt, BR.up HR.out hb4w, Word.zero, hb4w⟩, rfl⟩
  have hseq := nodes_seqQ (fun k => w1.heap.size + 2 ≤ k) (ks.size + 1) o3 ks A3 c3 0 w3.heap.size (w3.heap.size + 1) w3.heap.size (fun k => k = w.heap.size ∨ k = w.heap.size + 1 ∨ k = w1.heap.size ∨ k = w1.heap.size + 1) (fun pre x => pre.map It.key ++ [x.key] <+: walkT o3 ks 0) (fun x => x.n = 0 ∨ x.n = 2) W4 (Nat.lt_succ_self _) (fun _ h => h) (fun _ _ h => h)
    (hkd.below hb4) (by omega) (by omega) (by omega) a0 a1 a2 (by omega) (by omega) (fun k h => ⟨fun _ => by omega, by omega⟩)
  rw [hW4]
  have HTR := Lib.hid htr
  clear a0 a1 a2 hW4 hkd i0 i1 i2 i3 j0 j1 t0 t1 t2 t3 h3 htr hb3 hb4 hnb
  gi_wp2
  refine range_ownQ (gf := 70) (lb := #[.pointer (some ⟨w3.heap.size, 0, none⟩), .pointer (some ⟨w3.heap.size + 1, 0, none⟩)]) rfl (enters_of Try.func70 (by kernel_rfl) rfl) hseq (fun k h => by omega) (Below.refl _ _) (fun _ => rfl)
    (fun q V => LB w w.heap.size (w.heap.size + 1) w1.heap.size (w1.heap.size + 1) l n ((q.map It.key).flatMap codeK) V)
    (fun cd q V => False)
    (LB.own w _ _ _ _ l n _ (by have := hb4w.size; omega) (fun q => (q.map It.key).flatMap codeK))
    (fun cd => ownFrom_pure _ _)
    HL0.out
    (fun x a' V => ∃ Bx, w1.heap.size + 1 < Bx ∧ V.cell? ⟨Bx, 0, none⟩ = some (.bool x.o) ∧ V.cell? ⟨Bx, 1, none⟩ = some (.slice x.A x.n x.c) ∧ a' = { tmps := #[.slice A l.length c, .int .i64 (n : Int), .agg #[.bool o, .slice B m d], .pointer (some ⟨w.heap.size, 0, none⟩), .pointer (some ⟨w.heap.size + 1, 0, none⟩), .pointer (some ⟨w.heap.size + 1 + 1, 0, none⟩), .slice none 0 0, .int .i64 0, .int .i64 0, .pointer (some ⟨w1.heap.size, 0, none⟩), .pointer (some ⟨w1.heap.size + 1, 0, none⟩), .pointer (some ⟨Bx, 0, none⟩), undef, undef, .slice A l.length c, .int .i64 (n : Int), .bool true, .bool false, .bool false, .agg #[.bool o, .slice B m d], .bool true, .bool false, .bool false, .agg #[.bool o, .slice B m d], .agg #[.bool o3, .slice A3 ks.len c3], .func (.func 70) #[] #[.pointer (some ⟨w3.heap.size, 0, none⟩), .pointer (some ⟨w3.heap.size + 1, 0, none⟩)], tv x.o x.A x.n x.c, .int .i64 x.d, undef, undef, undef, undef, undef, undef, undef, undef, undef, undef, undef, undef, undef, undef, undef, undef, undef, undef, undef, undef, undef, undef, undef, undef, undef, undef, undef, undef, undef, undef, undef, undef, undef, undef], defers := [] })
    (fun x a' _ V V' row hs hg hr => by
      obtain ⟨Bx, hx, b0, b1, e⟩ := hs
      exact ⟨Bx, hx, cell_kept b0 hg (fun r e => (hr r e).2), cell_kept b1 hg (fun r e => (hr r e).2), e⟩) ?assign ?body ?done ?stop
  case assign =>
    rintro l' q x V K hsv hI hK
    obtain ⟨dn, bs, A5, c5, v5, m5, h5, e5⟩ := hI
    unfold It.enc tv
    gi_wp2
    refine hK _ _ ((Kept.refl _ V).alloc _) ?_ ⟨V.heap.size, h5.fm.lt, by simp [go_sem], by simp [go_sem], rfl⟩
    exact ⟨dn, bs, A5, c5, v5, m5, ⟨h5.fb.alloc _, h5.fn.alloc _, h5.fw.alloc _, h5.fm.alloc _, BR.up h5.row ((Below.refl _ V).alloc (Nat.le_refl _) _), h5.word, h5.bel.alloc h5.bel.size _⟩, e5⟩
  case body =>
    rintro l' q x a' V hsv ⟨dn, bs, A5, c5, v5, m5, h5, e5⟩ ⟨Bx, hBx, b0, b1, rfl⟩ hq
    obtain ⟨hx2, hlen⟩ := walk_lim HTR.out hq
    have hlb := bits_len t.norm
    have hnm := norm_nodes t
    have hnn := HV.out.inT.2.2
    have hdl : dn.length ≤ 3071 := by
      have := congrArg List.length e5
      rw [List.length_append] at this
      omega
    have hc := (callsIn_wide (n := 2)).2 (code_any x.o x.A x.n x.c x.d V)
    obtain ⟨ck1, ck2, ck3⟩ := codeK_digs x.key
    have HCV : Hid (codeV x.key = codeV (x.o, x.n, x.d)) := rfl
    have HCN : Hid (codeN x.key = codeN (x.o, x.n, x.d)) := rfl
    rw [← HCV.out, ← HCN.out] at hc
    obtain ⟨cv, hcv⟩ : ∃ cv, codeV x.key = cv := ⟨_, rfl⟩
    obtain ⟨cn, hcn⟩ : ∃ cn, codeN x.key = cn := ⟨_, rfl⟩
    rw [hcv, hcn] at hc
    unfold tv at hc ⊢
    clear hseq HL0
    have hmx : Try.prog.follows .mixedOrders = true := by kernel_rfl
    have hap : Apt w w.heap.size (w.heap.size + 1) w1.heap.size (w1.heap.size + 1) := ⟨by omega, by omega, by omega, by omega, by omega, by omega, by omega, by omega, by omega, by omega⟩
    have HAP := Lib.hid hap
    have hm64 : m5 ≤ 64 := h5.word.2.1
    have hdb : ∀ b ∈ dn, b < 2 := fun b hb => by
      have h1 : b ∈ (q.map It.key).flatMap codeK := by rw [← e5]; exact List.mem_append_left _ hb
      obtain ⟨k, _, h2⟩ := List.mem_flatMap.1 h1
      exact codeK_lt k b h2
    have hV5 := M.put_valid dn HR.out.1 HVA.out hdb
    have hl5 := put_len HVA.out dn
    rcases ck3 with ck3 | ck3
    · have hk : cn = 1 := by rw [← hcn]; exact ck3
      subst hk
      by_cases h64 : 64 < m5 + 1
      · obtain ⟨L5, hL5⟩ : ∃ L, M.putL l n dn = L := ⟨_, rfl⟩
        obtain ⟨n5, hn5⟩ : ∃ k, n + dn.length = k := ⟨_, rfl⟩
        obtain ⟨L6, hL6⟩ : ∃ L, M.putL l n (dn ++ bs) = L := ⟨_, rfl⟩
        obtain ⟨n6, hn6⟩ : ∃ k, n + (dn ++ bs).length = k := ⟨_, rfl⟩
        have HE : Hid (M.putL L5 n5 (M.digs v5 m5) = L6 ∧ n5 + m5 = n6) := by
          rw [← hL5, ← hn5, ← hL6, ← hn6, h5.word.2.2, ← M.putL_append, List.length_append]
          have : bs.length = m5 := by rw [← h5.word.2.2, M.digs_length]
          exact ⟨rfl, by omega⟩
        have hL5l : L5.length ≤ 140737488355328 := by rw [← hL5]; omega
        have HV5 : Hid (M.Valid L5 n5) := by rw [← hL5, ← hn5]; exact hV5
        have HL5 := Lib.hid hL5
        have HN5 := Lib.hid hn5
        have HL6 := Lib.hid hL6
        have HN6 := Lib.hid hn6
        have H5 := Lib.hid h5
        have HWF : Hid (Word cv 1 (codeK x.key)) := by
          have := Word.first x.key
          rw [ck3, hcv] at this
          exact this
        have hcv2 : cv < 2 := by rw [← hcv]; exact ck2
        have HX2 := Lib.hid hx2
        have E5 := Lib.hid e5
        clear hL5 hn5 hL6 hn6 h5 hx2 e5 hcv hq hlen hdl hdb hV5 hl5 ck1 ck2 ck3 hcn HCV HCN hlb hnm hnn hsv hap
        gi_wp2_with (refine ⟨trivial, ?_⟩; gi_at_call 54; refine (CallsIn.inRound l' hc).mono ?_; clear hc; rintro e V2 ⟨rfl, hb2⟩; have H6 := Lib.hid (H5.out.up hb2); have d2 := H6.out.fm.cell; have d3 := H6.out.fb.cell; have d4 := H6.out.fn.cell; have d5 := H6.out.fw.cell; rw [HL5.out] at d3; rw [HN5.out] at d4)
        have HK : Hid (Kept (fun k => k = w.heap.size ∨ k = w.heap.size + 1 ∨ k = w1.heap.size ∨ k = w1.heap.size + 1) V V2) := Kept.below hb2 (Nat.le_refl _)
        have hcp := CallsIn.inRound l' ((callsIn_wide (n := 2)).2 (put_yes A5 c5 L5 n5 v5 m5 V2 (by have := H6.out.row; rw [HL5.out] at this; exact this) hL5l HV5.out H6.out.word.1 H6.out.word.2.1))
        rw [HE.out.1, HE.out.2] at hcp
        refine ⟨trivial, hcp.mono ?_⟩
        rintro e w9 ⟨A9, c9, rfl, hr9, hb9⟩
        have H9 := Lib.hid (H6.out.up hb9)
        have HK9 := Lib.hid (HK.out.trans (Kept.below hb9 (Nat.le_refl _)))
        have HFL := Lib.hid ((H6.out.flush (c' := c9) HAP.out hb9 (by rw [HL6.out]; exact hr9)).gather HAP.out Word.zero)
        rw [HL6.out, HN6.out] at HFL
        have r1 := H9.out.fb.cell
        have r2 := H9.out.fn.cell
        have r3 := H9.out.fw.cell
        have r4 := H9.out.fm.cell
        have z1 := H9.out.fb.frozen
        have z2 := H9.out.fn.frozen
        have z3 := H9.out.fw.frozen
        have z4 := H9.out.fm.frozen
        rw [HL5.out] at r1
        rw [HN5.out] at r2
        have r2' : ∀ u, (w9.setCell ⟨w.heap.size, 0, none⟩ u).cell? ⟨w.heap.size + 1, 0, none⟩ = some (.int .i64 (n5 : Int)) := fun u => cell_far (by omega) r2
        have r3' : ∀ u u', ((w9.setCell ⟨w.heap.size, 0, none⟩ u).setCell ⟨w.heap.size + 1, 0, none⟩ u').cell? ⟨w1.heap.size, 0, none⟩ = some (.int .u64 (v5 : Int)) := fun u u' => cell_far (by omega) (cell_far (by omega) r3)
        have r4' : ∀ u u' u2, (((w9.setCell ⟨w.heap.size, 0, none⟩ u).setCell ⟨w.heap.size + 1, 0, none⟩ u').setCell ⟨w1.heap.size, 0, none⟩ u2).cell? ⟨w1.heap.size + 1, 0, none⟩ = some (.int .i64 (m5 : Int)) := fun u u' u2 => cell_far (by omega) (cell_far (by omega) (cell_far (by omega) r4))
        clear hcp d2 d3 d4 d5 hb2 hb9 hr9 H6 H9 HK
        gi_wp2
        obtain ⟨U, hU⟩ : ∃ U, (((w9.setCell ⟨w.heap.size, 0, none⟩ (.slice A9 L6.length c9)).setCell ⟨w.heap.size + 1, 0, none⟩ (.int .i64 (n6 : Int))).setCell ⟨w1.heap.size, 0, none⟩ (.int .u64 0)).setCell ⟨w1.heap.size + 1, 0, none⟩ (.int .i64 0) = U := ⟨_, rfl⟩
        have HKU : Hid (Kept (fun k => k = w.heap.size ∨ k = w.heap.size + 1 ∨ k = w1.heap.size ∨ k = w1.heap.size + 1) V U) := by
          rw [← hU]
          exact (((HK9.out.setCell (p := ⟨w.heap.size, 0, none⟩) (.inl rfl) _).setCell (p := ⟨w.heap.size + 1, 0, none⟩) (.inr (.inl rfl)) _).setCell (p := ⟨w1.heap.size, 0, none⟩) (.inr (.inr (.inl rfl))) _).setCell (p := ⟨w1.heap.size + 1, 0, none⟩) (.inr (.inr (.inr rfl))) _
        obtain ⟨v6, hv6⟩ : ∃ v : Nat, v = 0 := ⟨_, rfl⟩
        obtain ⟨m6, hm6⟩ : ∃ m : Nat, m = 0 := ⟨_, rfl⟩
        have HU : Hid (LV w w.heap.size (w.heap.size + 1) w1.heap.size (w1.heap.size + 1) l n (dn ++ bs) [] A9 c9 v6 m6 U) := by rw [hv6, hm6, ← hU]; exact HFL.out
        rw [hU]
        have HW : Hid (Word (v6 * 2 + cv) (m6 + 1) (codeK x.key)) := by rw [hv6, hm6, Nat.zero_mul, Nat.zero_add, Nat.zero_add]; exact HWF.out
        have HOR : Hid (bits .or .u64 (IntKind.u64.wrap ((v6 : Int) * 2)) (cv : Int) = ((v6 * 2 + cv : Nat) : Int)) := or_word1 v6 cv (by omega) hcv2
        have HWR : Hid (IntKind.i64.wrap ((m6 : Int) + 1) = (m6 : Int) + 1) := by rw [hm6]; rfl
        have d2 := HU.out.fm.cell
        have d5 := HU.out.fw.cell
        have f2 := HU.out.fm.frozen
        have f5 := HU.out.fw.frozen
        have HL := Lib.hid ((HU.out.drew).gather HAP.out HW.out)
        have HF : Hid (Kept (fun k => k = w.heap.size ∨ k = w.heap.size + 1 ∨ k = w1.heap.size ∨ k = w1.heap.size + 1) V ((U.drew.setCell ⟨w1.heap.size, 0, none⟩ (.int .u64 ((v6 * 2 + cv : Nat) : Int))).setCell ⟨w1.heap.size + 1, 0, none⟩ (.int .i64 ((m6 + 1 : Nat) : Int))) ∧ (x.n = 0 ∨ x.n = 2) ∧ LB w w.heap.size (w.heap.size + 1) w1.heap.size (w1.heap.size + 1) l n (((q ++ [x]).map It.key).flatMap codeK) ((U.drew.setCell ⟨w1.heap.size, 0, none⟩ (.int .u64 ((v6 * 2 + cv : Nat) : Int))).setCell ⟨w1.heap.size + 1, 0, none⟩ (.int .i64 ((m6 + 1 : Nat) : Int)))) :=
          ⟨((HKU.out.trans (⟨Nat.le_refl _, fun _ _ _ => rfl⟩ : Kept _ U U.drew)).setCell (p := ⟨w1.heap.size, 0, none⟩) (.inr (.inr (.inl rfl))) _).setCell (p := ⟨w1.heap.size + 1, 0, none⟩) (.inr (.inr (.inr rfl))) _, HX2.out, dn ++ bs, codeK x.key, A9, c9, _, _, HL.out, by rw [E5.out]; simp⟩
        have d2' : ∀ u, (U.drew.setCell ⟨w1.heap.size, 0, none⟩ u).cell? ⟨w1.heap.size + 1, 0, none⟩ = some (.int .i64 (m6 : Int)) := fun u => (World.cell?_setCell_other _ _ _ _ (fun e => by injection e; omega)).trans d2
        have hm6' : m6 ≤ 64 := by omega
        have m56 : w1.heap.size ≠ w1.heap.size + 1 := by omega
        clear hU hv6 hm6 HU HL HKU HFL HK9 r1 r2 r3 r4 z1 z2 z3 z4 r2' r3' r4'
        refine region_heldIn (fun _ => True) hmx (by kernel_rfl) (fun _ _ h => h) ?_
        refine wpAnyH_take (i := 1) (v := .int .i64 1) rfl (by kernel_rfl) (by kernel_rfl) (by kernel_rfl) (fun _ _ _ h => h) (.inl ⟨by kernel_rfl, fun w _ => by go_simp⟩) trivial ?_
        refine wpAnyH_take (i := 3) (v := .int .u64 (cv : Int)) rfl (by kernel_rfl) (by kernel_rfl) (by kernel_rfl) (fun _ _ _ h => h) (.inl ⟨by kernel_rfl, fun w _ => by go_simp⟩) trivial ?_
        refine wpAnyH_take (i := 6) (v := .int .i64 1) rfl (by kernel_rfl) (by kernel_rfl) (by kernel_rfl) (fun _ _ _ h => h) (.inl ⟨by kernel_rfl, fun w _ => by go_simp⟩) trivial ?_
        refine wpAnyH_all (rs := [0, 5]) (by kernel_rfl) (by simp) (fun i hi => ?_)
        obtain rfl | rfl : i = 0 ∨ i = 5 := by simpa using hi
        · skip
          refine wpOp_step rfl (fun K' hK' => ?_)
          go_simp
          refine hK' _ _ ⟨trivial, ?_⟩
          clear hK' K' hi
          refine wpAnyH_take (i := 2) (v := .int .u64 (IntKind.u64.wrap ((v6 : Int) * 2))) rfl (by kernel_rfl) (by kernel_rfl) (by kernel_rfl) (fun _ _ _ h => h) (.inl ⟨by kernel_rfl, fun w _ => by go_simp⟩) trivial ?_
          refine wpAnyH_take (i := 4) (v := .int .u64 ((v6 * 2 + cv : Nat) : Int)) rfl (by kernel_rfl) (by kernel_rfl) (by kernel_rfl) (fun _ _ _ h => h) (.inl ⟨by kernel_rfl, fun w _ => by go_simp; exact HOR.out⟩) trivial ?_
          refine wpAnyH_all (rs := [5, 8]) (by kernel_rfl) (by simp) (fun i hi => ?_)
          obtain rfl | rfl : i = 5 ∨ i = 8 := by simpa using hi
          · skip
            refine wpOp_step rfl (fun K' hK' => ?_)
            go_simp
            refine hK' _ _ ⟨trivial, ?_⟩
            clear hK' K' hi
            refine wpAnyH_take (i := 7) (v := .int .i64 ((m6 + 1 : Nat) : Int)) rfl (by kernel_rfl) (by kernel_rfl) (by kernel_rfl) (fun _ _ _ h => h) (.inl ⟨by kernel_rfl, fun w _ => by go_simp; exact HWR.out⟩) trivial ?_
            refine wpAnyH_all (rs := [8]) (by kernel_rfl) (by simp) (fun i hi => ?_)
            obtain rfl := List.mem_singleton.1 hi
            refine wpOp_step rfl (fun K' hK' => ?_)
            go_simp
            refine hK' _ _ ⟨trivial, ?_⟩
            clear hK' K' hi
            refine wpAnyH_all (rs := [9]) (by kernel_rfl) (by simp) (fun i hi => ?_)
            obtain rfl := List.mem_singleton.1 hi
            refine wpOp_step rfl (fun K' hK' => ?_)
            go_simp
            refine hK' _ _ ⟨trivial, ?_⟩
            clear hK' K' hi
            refine wpAnyH_done (by kernel_rfl) ?_ _
            exact HF.out
          · skip
            refine wpOp_step rfl (fun K' hK' => ?_)
            go_simp
            refine hK' _ _ ⟨trivial, ?_⟩
            clear hK' K' hi
            refine wpAnyH_all (rs := [5]) (by kernel_rfl) (by simp) (fun i hi => ?_)
            obtain rfl := List.mem_singleton.1 hi
            refine wpOp_step rfl (fun K' hK' => ?_)
            go_simp
            refine hK' _ _ ⟨trivial, ?_⟩
            clear hK' K' hi
            refine wpAnyH_take (i := 7) (v := .int .i64 ((m6 + 1 : Nat) : Int)) rfl (by kernel_rfl) (by kernel_rfl) (by kernel_rfl) (fun _ _ _ h => h) (.inl ⟨by kernel_rfl, fun w _ => by go_simp; exact HWR.out⟩) trivial ?_
            refine wpAnyH_all (rs := [9]) (by kernel_rfl) (by simp) (fun i hi => ?_)
            obtain rfl := List.mem_singleton.1 hi
            refine wpOp_step rfl (fun K' hK' => ?_)
            go_simp
            refine hK' _ _ ⟨trivial, ?_⟩
            clear hK' K' hi
            refine wpAnyH_done (by kernel_rfl) ?_ _
            exact HF.out
        · skip
          refine wpOp_step rfl (fun K' hK' => ?_)
          go_simp
          refine hK' _ _ ⟨trivial, ?_⟩
          clear hK' K' hi
          refine wpAnyH_take (i := 7) (v := .int .i64 ((m6 + 1 : Nat) : Int)) rfl (by kernel_rfl) (by kernel_rfl) (by kernel_rfl) (fun _ _ _ h => h) (.inl ⟨by kernel_rfl, fun w _ => by go_simp; exact HWR.out⟩) trivial ?_
          refine wpAnyH_all (rs := [0]) (by kernel_rfl) (by simp) (fun i hi => ?_)
          obtain rfl := List.mem_singleton.1 hi
          refine wpOp_step rfl (fun K' hK' => ?_)
          go_simp
          refine hK' _ _ ⟨trivial, ?_⟩
          clear hK' K' hi
          refine wpAnyH_take (i := 2) (v := .int .u64 (IntKind.u64.wrap ((v6 : Int) * 2))) rfl (by kernel_rfl) (by kernel_rfl) (by kernel_rfl) (fun _ _ _ h => h) (.inl ⟨by kernel_rfl, fun w _ => by go_simp⟩) trivial ?_
          refine wpAnyH_take (i := 4) (v := .int .u64 ((v6 * 2 + cv : Nat) : Int)) rfl (by kernel_rfl) (by kernel_rfl) (by kernel_rfl) (fun _ _ _ h => h) (.inl ⟨by kernel_rfl, fun w _ => by go_simp; exact HOR.out⟩) trivial ?_
          refine wpAnyH_all (rs := [8]) (by kernel_rfl) (by simp) (fun i hi => ?_)
          obtain rfl := List.mem_singleton.1 hi
          refine wpOp_step rfl (fun K' hK' => ?_)
          go_simp
          refine hK' _ _ ⟨trivial, ?_⟩
          clear hK' K' hi
          refine wpAnyH_all (rs := [9]) (by kernel_rfl) (by simp) (fun i hi => ?_)
          obtain rfl := List.mem_singleton.1 hi
          refine wpOp_step rfl (fun K' hK' => ?_)
          go_simp
          refine hK' _ _ ⟨trivial, ?_⟩
          clear hK' K' hi
          refine wpAnyH_done (by kernel_rfl) ?_ _
          exact HF.out
      · have HW : Hid (Word (v5 * 2 + cv) (m5 + 1) (bs ++ codeK x.key)) := by
          have := h5.word.next x.key (by rw [ck3]; omega)
          rw [ck3, hcv] at this
          exact this
        have HOR : Hid (bits .or .u64 (IntKind.u64.wrap ((v5 : Int) * 2)) (cv : Int) = ((v5 * 2 + cv : Nat) : Int)) := or_word1 v5 cv (by have := HW.out.1; have h2 : 2 ^ (m5 + 1) ≤ 2 ^ 64 := Nat.pow_le_pow_right (by decide) (by omega); simp only [Nat.reducePow] at h2; omega) (by rw [← hcv]; exact ck2)
        gi_wp2_with (refine ⟨trivial, ?_⟩; gi_at_call 54; refine (CallsIn.inRound l' hc).mono ?_; clear hc; rintro e V2 ⟨rfl, hb2⟩; have H6 := Lib.hid (h5.up hb2); have d2 := H6.out.fm.cell; have d3 := H6.out.fb.cell; have d4 := H6.out.fn.cell; have d5 := H6.out.fw.cell; have f2 := H6.out.fm.frozen; have f5 := H6.out.fw.frozen)
        have HK : Hid (Kept (fun k => k = w.heap.size ∨ k = w.heap.size + 1 ∨ k = w1.heap.size ∨ k = w1.heap.size + 1) V V2) := Kept.below hb2 (Nat.le_refl _)
        have HL := Lib.hid ((H6.out.drew).gather HAP.out HW.out)
        have HF : Hid (Kept (fun k => k = w.heap.size ∨ k = w.heap.size + 1 ∨ k = w1.heap.size ∨ k = w1.heap.size + 1) V ((V2.drew.setCell ⟨w1.heap.size, 0, none⟩ (.int .u64 ((v5 * 2 + cv : Nat) : Int))).setCell ⟨w1.heap.size + 1, 0, none⟩ (.int .i64 ((m5 + 1 : Nat) : Int))) ∧ (x.n = 0 ∨ x.n = 2) ∧ LB w w.heap.size (w.heap.size + 1) w1.heap.size (w1.heap.size + 1) l n (((q ++ [x]).map It.key).flatMap codeK) ((V2.drew.setCell ⟨w1.heap.size, 0, none⟩ (.int .u64 ((v5 * 2 + cv : Nat) : Int))).setCell ⟨w1.heap.size + 1, 0, none⟩ (.int .i64 ((m5 + 1 : Nat) : Int)))) :=
          ⟨((HK.out.trans (⟨Nat.le_refl _, fun _ _ _ => rfl⟩ : Kept _ V2 V2.drew)).setCell (p := ⟨w1.heap.size, 0, none⟩) (.inr (.inr (.inl rfl))) _).setCell (p := ⟨w1.heap.size + 1, 0, none⟩) (.inr (.inr (.inr rfl))) _, hx2, dn, bs ++ codeK x.key, A5, c5, _, _, HL.out, by rw [← List.append_assoc, e5]; simp⟩
        have HWR : Hid (IntKind.i64.wrap ((m5 : Int) + 1) = (m5 : Int) + 1) := by show _ = _; rw [IntKind.wrap_i64]; omega
        have m56 : w1.heap.size ≠ w1.heap.size + 1 := by omega
        have d2' : ∀ u, (V2.drew.setCell ⟨w1.heap.size, 0, none⟩ u).cell? ⟨w1.heap.size + 1, 0, none⟩ = some (.int .i64 (m5 : Int)) := fun u => (World.cell?_setCell_other _ _ _ _ (fun e => by injection e; omega)).trans d2
        clear hb2 HL HK H6 h5 e5 hcv hq hx2 hlen hdl hdb hV5 hl5 ck1 ck2 HCV HCN hlb hnm hnn hsv
        refine region_heldIn (fun _ => True) hmx (by kernel_rfl) (fun _ _ h => h) ?_
        refine wpAnyH_take (i := 1) (v := .int .i64 1) rfl (by kernel_rfl) (by kernel_rfl) (by kernel_rfl) (fun _ _ _ h => h) (.inl ⟨by kernel_rfl, fun w _ => by go_simp⟩) trivial ?_
        refine wpAnyH_take (i := 3) (v := .int .u64 (cv : Int)) rfl (by kernel_rfl) (by kernel_rfl) (by kernel_rfl) (fun _ _ _ h => h) (.inl ⟨by kernel_rfl, fun w _ => by go_simp⟩) trivial ?_
        refine wpAnyH_take (i := 6) (v := .int .i64 1) rfl (by kernel_rfl) (by kernel_rfl) (by kernel_rfl) (fun _ _ _ h => h) (.inl ⟨by kernel_rfl, fun w _ => by go_simp⟩) trivial ?_
        refine wpAnyH_all (rs := [0, 5]) (by kernel_rfl) (by simp) (fun i hi => ?_)
        obtain rfl | rfl : i = 0 ∨ i = 5 := by simpa using hi
        · skip
          refine wpOp_step rfl (fun K' hK' => ?_)
          go_simp
          refine hK' _ _ ⟨trivial, ?_⟩
          clear hK' K' hi
          refine wpAnyH_take (i := 2) (v := .int .u64 (IntKind.u64.wrap ((v5 : Int) * 2))) rfl (by kernel_rfl) (by kernel_rfl) (by kernel_rfl) (fun _ _ _ h => h) (.inl ⟨by kernel_rfl, fun w _ => by go_simp⟩) trivial ?_
          refine wpAnyH_take (i := 4) (v := .int .u64 ((v5 * 2 + cv : Nat) : Int)) rfl (by kernel_rfl) (by kernel_rfl) (by kernel_rfl) (fun _ _ _ h => h) (.inl ⟨by kernel_rfl, fun w _ => by go_simp; exact HOR.out⟩) trivial ?_
          refine wpAnyH_all (rs := [5, 8]) (by kernel_rfl) (by simp) (fun i hi => ?_)
          obtain rfl | rfl : i = 5 ∨ i = 8 := by simpa using hi
          · skip
            refine wpOp_step rfl (fun K' hK' => ?_)
            go_simp
            refine hK' _ _ ⟨trivial, ?_⟩
            clear hK' K' hi
            refine wpAnyH_take (i := 7) (v := .int .i64 ((m5 + 1 : Nat) : Int)) rfl (by kernel_rfl) (by kernel_rfl) (by kernel_rfl) (fun _ _ _ h => h) (.inl ⟨by kernel_rfl, fun w _ => by go_simp; exact HWR.out⟩) trivial ?_
            refine wpAnyH_all (rs := [8]) (by kernel_rfl) (by simp) (fun i hi => ?_)
            obtain rfl := List.mem_singleton.1 hi
            refine wpOp_step rfl (fun K' hK' => ?_)
            go_simp
            refine hK' _ _ ⟨trivial, ?_⟩
            clear hK' K' hi
            refine wpAnyH_all (rs := [9]) (by kernel_rfl) (by simp) (fun i hi => ?_)
            obtain rfl := List.mem_singleton.1 hi
            refine wpOp_step rfl (fun K' hK' => ?_)
            go_simp
            refine hK' _ _ ⟨trivial, ?_⟩
            clear hK' K' hi
            refine wpAnyH_done (by kernel_rfl) ?_ _
            exact HF.out
          · skip
            refine wpOp_step rfl (fun K' hK' => ?_)
            go_simp
            refine hK' _ _ ⟨trivial, ?_⟩
            clear hK' K' hi
            refine wpAnyH_all (rs := [5]) (by kernel_rfl) (by simp) (fun i hi => ?_)
            obtain rfl := List.mem_singleton.1 hi
            refine wpOp_step rfl (fun K' hK' => ?_)
            go_simp
            refine hK' _ _ ⟨trivial, ?_⟩
            clear hK' K' hi
            refine wpAnyH_take (i := 7) (v := .int .i64 ((m5 + 1 : Nat) : Int)) rfl (by kernel_rfl) (by kernel_rfl) (by kernel_rfl) (fun _ _ _ h => h) (.inl ⟨by kernel_rfl, fun w _ => by go_simp; exact HWR.out⟩) trivial ?_
            refine wpAnyH_all (rs := [9]) (by kernel_rfl) (by simp) (fun i hi => ?_)
            obtain rfl := List.mem_singleton.1 hi
            refine wpOp_step rfl (fun K' hK' => ?_)
            go_simp
            refine hK' _ _ ⟨trivial, ?_⟩
            clear hK' K' hi
            refine wpAnyH_done (by kernel_rfl) ?_ _
            exact HF.out
        · skip
          refine wpOp_step rfl (fun K' hK' => ?_)
          go_simp
          refine hK' _ _ ⟨trivial, ?_⟩
          clear hK' K' hi
          refine wpAnyH_take (i := 7) (v := .int .i64 ((m5 + 1 : Nat) : Int)) rfl (by kernel_rfl) (by kernel_rfl) (by kernel_rfl) (fun _ _ _ h => h) (.inl ⟨by kernel_rfl, fun w _ => by go_simp; exact HWR.out⟩) trivial ?_
          refine wpAnyH_all (rs := [0]) (by kernel_rfl) (by simp) (fun i hi => ?_)
          obtain rfl := List.mem_singleton.1 hi
          refine wpOp_step rfl (fun K' hK' => ?_)
          go_simp
          refine hK' _ _ ⟨trivial, ?_⟩
          clear hK' K' hi
          refine wpAnyH_take (i := 2) (v := .int .u64 (IntKind.u64.wrap ((v5 : Int) * 2))) rfl (by kernel_rfl) (by kernel_rfl) (by kernel_rfl) (fun _ _ _ h => h) (.inl ⟨by kernel_rfl, fun w _ => by go_simp⟩) trivial ?_
          refine wpAnyH_take (i := 4) (v := .int .u64 ((v5 * 2 + cv : Nat) : Int)) rfl (by kernel_rfl) (by kernel_rfl) (by kernel_rfl) (fun _ _ _ h => h) (.inl ⟨by kernel_rfl, fun w _ => by go_simp; exact HOR.out⟩) trivial ?_
          refine wpAnyH_all (rs := [8]) (by kernel_rfl) (by simp) (fun i hi => ?_)
          obtain rfl := List.mem_singleton.1 hi
          refine wpOp_step rfl (fun K' hK' => ?_)
          go_simp
          refine hK' _ _ ⟨trivial, ?_⟩
          clear hK' K' hi
          refine wpAnyH_all (rs := [9]) (by kernel_rfl) (by simp) (fun i hi => ?_)
          obtain rfl := List.mem_singleton.1 hi
          refine wpOp_step rfl (fun K' hK' => ?_)
          go_simp
          refine hK' _ _ ⟨trivial, ?_⟩
          clear hK' K' hi
          refine wpAnyH_done (by kernel_rfl) ?_ _
          exact HF.out
    · have hk : cn = 2 := by rw [← hcn]; exact ck3
      subst hk
      by_cases h64 : 64 < m5 + 2
      · obtain ⟨L5, hL5⟩ : ∃ L, M.putL l n dn = L := ⟨_, rfl⟩
        obtain ⟨n5, hn5⟩ : ∃ k, n + dn.length = k := ⟨_, rfl⟩
        obtain ⟨L6, hL6⟩ : ∃ L, M.putL l n (dn ++ bs) = L := ⟨_, rfl⟩
        obtain ⟨n6, hn6⟩ : ∃ k, n + (dn ++ bs).length = k := ⟨_, rfl⟩
        have HE : Hid (M.putL L5 n5 (M.digs v5 m5) = L6 ∧ n5 + m5 = n6) := by
          rw [← hL5, ← hn5, ← hL6, ← hn6, h5.word.2.2, ← M.putL_append, List.length_append]
          have : bs.length = m5 := by rw [← h5.word.2.2, M.digs_length]
          exact ⟨rfl, by omega⟩
        have hL5l : L5.length ≤ 140737488355328 := by rw [← hL5]; omega
        have HV5 : Hid (M.Valid L5 n5) := by rw [← hL5, ← hn5]; exact hV5
        have HL5 := Lib.hid hL5
        have HN5 := Lib.hid hn5
        have HL6 := Lib.hid hL6
        have HN6 := Lib.hid hn6
        have H5 := Lib.hid h5
        have HWF : Hid (Word cv 2 (codeK x.key)) := by
          have := Word.first x.key
          rw [ck3, hcv] at this
          exact this
        have hcv2 : cv < 2 := by rw [← hcv]; exact ck2
        have HX2 := Lib.hid hx2
        have E5 := Lib.hid e5
        clear hL5 hn5 hL6 hn6 h5 hx2 e5 hcv hq hlen hdl hdb hV5 hl5 ck1 ck2 ck3 hcn HCV HCN hlb hnm hnn hsv hap
        gi_wp2_with (refine ⟨trivial, ?_⟩; gi_at_call 54; refine (CallsIn.inRound l' hc).mono ?_; clear hc; rintro e V2 ⟨rfl, hb2⟩; have H6 := Lib.hid (H5.out.up hb2); have d2 := H6.out.fm.cell; have d3 := H6.out.fb.cell; have d4 := H6.out.fn.cell; have d5 := H6.out.fw.cell; rw [HL5.out] at d3; rw [HN5.out] at d4)
        have HK : Hid (Kept (fun k => k = w.heap.size ∨ k = w.heap.size + 1 ∨ k = w1.heap.size ∨ k = w1.heap.size + 1) V V2) := Kept.below hb2 (Nat.le_refl _)
        have hcp := CallsIn.inRound l' ((callsIn_wide (n := 2)).2 (put_yes A5 c5 L5 n5 v5 m5 V2 (by have := H6.out.row; rw [HL5.out] at this; exact this) hL5l HV5.out H6.out.word.1 H6.out.word.2.1))
        rw [HE.out.1, HE.out.2] at hcp
        refine ⟨trivial, hcp.mono ?_⟩
        rintro e w9 ⟨A9, c9, rfl, hr9, hb9⟩
        have H9 := Lib.hid (H6.out.up hb9)
        have HK9 := Lib.hid (HK.out.trans (Kept.below hb9 (Nat.le_refl _)))
        have HFL := Lib.hid ((H6.out.flush (c' := c9) HAP.out hb9 (by rw [HL6.out]; exact hr9)).gather HAP.out Word.zero)
        rw [HL6.out, HN6.out] at HFL
        have r1 := H9.out.fb.cell
        have r2 := H9.out.fn.cell
        have r3 := H9.out.fw.cell
        have r4 := H9.out.fm.cell
        have z1 := H9.out.fb.frozen
        have z2 := H9.out.fn.frozen
        have z3 := H9.out.fw.frozen
        have z4 := H9.out.fm.frozen
        rw [HL5.out] at r1
        rw [HN5.out] at r2
        have r2' : ∀ u, (w9.setCell ⟨w.heap.size, 0, none⟩ u).cell? ⟨w.heap.size + 1, 0, none⟩ = some (.int .i64 (n5 : Int)) := fun u => cell_far (by omega) r2
        have r3' : ∀ u u', ((w9.setCell ⟨w.heap.size, 0, none⟩ u).setCell ⟨w.heap.size + 1, 0, none⟩ u').cell? ⟨w1.heap.size, 0, none⟩ = some (.int .u64 (v5 : Int)) := fun u u' => cell_far (by omega) (cell_far (by omega) r3)
        have r4' : ∀ u u' u2, (((w9.setCell ⟨w.heap.size, 0, none⟩ u).setCell ⟨w.heap.size + 1, 0, none⟩ u').setCell ⟨w1.heap.size, 0, none⟩ u2).cell? ⟨w1.heap.size + 1, 0, none⟩ = some (.int .i64 (m5 : Int)) := fun u u' u2 => cell_far (by omega) (cell_far (by omega) (cell_far (by omega) r4))
        clear hcp d2 d3 d4 d5 hb2 hb9 hr9 H6 H9 HK
        gi_wp2
        obtain ⟨U, hU⟩ : ∃ U, (((w9.setCell ⟨w.heap.size, 0, none⟩ (.slice A9 L6.length c9)).setCell ⟨w.heap.size + 1, 0, none⟩ (.int .i64 (n6 : Int))).setCell ⟨w1.heap.size, 0, none⟩ (.int .u64 0)).setCell ⟨w1.heap.size + 1, 0, none⟩ (.int .i64 0) = U := ⟨_, rfl⟩
        have HKU : Hid (Kept (fun k => k = w.heap.size ∨ k = w.heap.size + 1 ∨ k = w1.heap.size ∨ k = w1.heap.size + 1) V U) := by
          rw [← hU]
          exact (((HK9.out.setCell (p := ⟨w.heap.size, 0, none⟩) (.inl rfl) _).setCell (p := ⟨w.heap.size + 1, 0, none⟩) (.inr (.inl rfl)) _).setCell (p := ⟨w1.heap.size, 0, none⟩) (.inr (.inr (.inl rfl))) _).setCell (p := ⟨w1.heap.size + 1, 0, none⟩) (.inr (.inr (.inr rfl))) _
        obtain ⟨v6, hv6⟩ : ∃ v : Nat, v = 0 := ⟨_, rfl⟩
        obtain ⟨m6, hm6⟩ : ∃ m : Nat, m = 0 := ⟨_, rfl⟩
        have HU : Hid (LV w w.heap.size (w.heap.size + 1) w1.heap.size (w1.heap.size + 1) l n (dn ++ bs) [] A9 c9 v6 m6 U) := by rw [hv6, hm6, ← hU]; exact HFL.out
        rw [hU]
        have HW : Hid (Word (v6 * 4 + cv) (m6 + 2) (codeK x.key)) := by rw [hv6, hm6, Nat.zero_mul, Nat.zero_add, Nat.zero_add]; exact HWF.out
        have HOR : Hid (bits .or .u64 (IntKind.u64.wrap ((v6 : Int) * 4)) (cv : Int) = ((v6 * 4 + cv : Nat) : Int)) := or_word2 v6 cv (by omega) hcv2
        have HWR : Hid (IntKind.i64.wrap ((m6 : Int) + 2) = (m6 : Int) + 2) := by rw [hm6]; rfl
        have d2 := HU.out.fm.cell
        have d5 := HU.out.fw.cell
        have f2 := HU.out.fm.frozen
        have f5 := HU.out.fw.frozen
        have HL := Lib.hid ((HU.out.drew).gather HAP.out HW.out)
        have HF : Hid (Kept (fun k => k = w.heap.size ∨ k = w.heap.size + 1 ∨ k = w1.heap.size ∨ k = w1.heap.size + 1) V ((U.drew.setCell ⟨w1.heap.size, 0, none⟩ (.int .u64 ((v6 * 4 + cv : Nat) : Int))).setCell ⟨w1.heap.size + 1, 0, none⟩ (.int .i64 ((m6 + 2 : Nat) : Int))) ∧ (x.n = 0 ∨ x.n = 2) ∧ LB w w.heap.size (w.heap.size + 1) w1.heap.size (w1.heap.size + 1) l n (((q ++ [x]).map It.key).flatMap codeK) ((U.drew.setCell ⟨w1.heap.size, 0, none⟩ (.int .u64 ((v6 * 4 + cv : Nat) : Int))).setCell ⟨w1.heap.size + 1, 0, none⟩ (.int .i64 ((m6 + 2 : Nat) : Int)))) :=
          ⟨((HKU.out.trans (⟨Nat.le_refl _, fun _ _ _ => rfl⟩ : Kept _ U U.drew)).setCell (p := ⟨w1.heap.size, 0, none⟩) (.inr (.inr (.inl rfl))) _).setCell (p := ⟨w1.heap.size + 1, 0, none⟩) (.inr (.inr (.inr rfl))) _, HX2.out, dn ++ bs, codeK x.key, A9, c9, _, _, HL.out, by rw [E5.out]; simp⟩
        have d2' : ∀ u, (U.drew.setCell ⟨w1.heap.size, 0, none⟩ u).cell? ⟨w1.heap.size + 1, 0, none⟩ = some (.int .i64 (m6 : Int)) := fun u => (World.cell?_setCell_other _ _ _ _ (fun e => by injection e; omega)).trans d2
        have hm6' : m6 ≤ 64 := by omega
        have m56 : w1.heap.size ≠ w1.heap.size + 1 := by omega
        clear hU hv6 hm6 HU HL HKU HFL HK9 r1 r2 r3 r4 z1 z2 z3 z4 r2' r3' r4'
        refine region_heldIn (fun _ => True) hmx (by kernel_rfl) (fun _ _ h => h) ?_
        refine wpAnyH_take (i := 1) (v := .int .i64 2) rfl (by kernel_rfl) (by kernel_rfl) (by kernel_rfl) (fun _ _ _ h => h) (.inl ⟨by kernel_rfl, fun w _ => by go_simp⟩) trivial ?_
        refine wpAnyH_take (i := 3) (v := .int .u64 (cv : Int)) rfl (by kernel_rfl) (by kernel_rfl) (by kernel_rfl) (fun _ _ _ h => h) (.inl ⟨by kernel_rfl, fun w _ => by go_simp⟩) trivial ?_
        refine wpAnyH_take (i := 6) (v := .int .i64 2) rfl (by kernel_rfl) (by kernel_rfl) (by kernel_rfl) (fun _ _ _ h => h) (.inl ⟨by kernel_rfl, fun w _ => by go_simp⟩) trivial ?_
        refine wpAnyH_all (rs := [0, 5]) (by kernel_rfl) (by simp) (fun i hi => ?_)
        obtain rfl | rfl : i = 0 ∨ i = 5 := by simpa using hi
        · skip
          refine wpOp_step rfl (fun K' hK' => ?_)
          go_simp
          refine hK' _ _ ⟨trivial, ?_⟩
          clear hK' K' hi
          refine wpAnyH_take (i := 2) (v := .int .u64 (IntKind.u64.wrap ((v6 : Int) * 4))) rfl (by kernel_rfl) (by kernel_rfl) (by kernel_rfl) (fun _ _ _ h => h) (.inl ⟨by kernel_rfl, fun w _ => by go_simp⟩) trivial ?_
          refine wpAnyH_take (i := 4) (v := .int .u64 ((v6 * 4 + cv : Nat) : Int)) rfl (by kernel_rfl) (by kernel_rfl) (by kernel_rfl) (fun _ _ _ h => h) (.inl ⟨by kernel_rfl, fun w _ => by go_simp; exact HOR.out⟩) trivial ?_
          refine wpAnyH_all (rs := [5, 8]) (by kernel_rfl) (by simp) (fun i hi => ?_)
          obtain rfl | rfl : i = 5 ∨ i = 8 := by simpa using hi
          · skip
            refine wpOp_step rfl (fun K' hK' => ?_)
            go_simp
            refine hK' _ _ ⟨trivial, ?_⟩
            clear hK' K' hi
            refine wpAnyH_take (i := 7) (v := .int .i64 ((m6 + 2 : Nat) : Int)) rfl (by kernel_rfl) (by kernel_rfl) (by kernel_rfl) (fun _ _ _ h => h) (.inl ⟨by kernel_rfl, fun w _ => by go_simp; exact HWR.out⟩) trivial ?_
            refine wpAnyH_all (rs := [8]) (by kernel_rfl) (by simp) (fun i hi => ?_)
            obtain rfl := List.mem_singleton.1 hi
            refine wpOp_step rfl (fun K' hK' => ?_)
            go_simp
            refine hK' _ _ ⟨trivial, ?_⟩
            clear hK' K' hi
            refine wpAnyH_all (rs := [9]) (by kernel_rfl) (by simp) (fun i hi => ?_)
            obtain rfl := List.mem_singleton.1 hi
            refine wpOp_step rfl (fun K' hK' => ?_)
            go_simp
            refine hK' _ _ ⟨trivial, ?_⟩
            clear hK' K' hi
            refine wpAnyH_done (by kernel_rfl) ?_ _
            exact HF.out
          · skip
            refine wpOp_step rfl (fun K' hK' => ?_)
            go_simp
            refine hK' _ _ ⟨trivial, ?_⟩
            clear hK' K' hi
            refine wpAnyH_all (rs := [5]) (by kernel_rfl) (by simp) (fun i hi => ?_)
            obtain rfl := List.mem_singleton.1 hi
            refine wpOp_step rfl (fun K' hK' => ?_)
            go_simp
            refine hK' _ _ ⟨trivial, ?_⟩
            clear hK' K' hi
            refine wpAnyH_take (i := 7) (v := .int .i64 ((m6 + 2 : Nat) : Int)) rfl (by kernel_rfl) (by kernel_rfl) (by kernel_rfl) (fun _ _ _ h => h) (.inl ⟨by kernel_rfl, fun w _ => by go_simp; exact HWR.out⟩) trivial ?_
            refine wpAnyH_all (rs := [9]) (by kernel_rfl) (by simp) (fun i hi => ?_)
            obtain rfl := List.mem_singleton.1 hi
            refine wpOp_step rfl (fun K' hK' => ?_)
            go_simp
            refine hK' _ _ ⟨trivial, ?_⟩
            clear hK' K' hi
            refine wpAnyH_done (by kernel_rfl) ?_ _
            exact HF.out
        · skip
          refine wpOp_step rfl (fun K' hK' => ?_)
          go_simp
          refine hK' _ _ ⟨trivial, ?_⟩
          clear hK' K' hi
          refine wpAnyH_take (i := 7) (v := .int .i64 ((m6 + 2 : Nat) : Int)) rfl (by kernel_rfl) (by kernel_rfl) (by kernel_rfl) (fun _ _ _ h => h) (.inl ⟨by kernel_rfl, fun w _ => by go_simp; exact HWR.out⟩) trivial ?_
          refine wpAnyH_all (rs := [0]) (by kernel_rfl) (by simp) (fun i hi => ?_)
          obtain rfl := List.mem_singleton.1 hi
          refine wpOp_step rfl (fun K' hK' => ?_)
          go_simp
          refine hK' _ _ ⟨trivial, ?_⟩
          clear hK' K' hi
          refine wpAnyH_take (i := 2) (v := .int .u64 (IntKind.u64.wrap ((v6 : Int) * 4))) rfl (by kernel_rfl) (by kernel_rfl) (by kernel_rfl) (fun _ _ _ h => h) (.inl ⟨by kernel_rfl, fun w _ => by go_simp⟩) trivial ?_
          refine wpAnyH_take (i := 4) (v := .int .u64 ((v6 * 4 + cv : Nat) : Int)) rfl (by kernel_rfl) (by kernel_rfl) (by kernel_rfl) (fun _ _ _ h => h) (.inl ⟨by kernel_rfl, fun w _ => by go_simp; exact HOR.out⟩) trivial ?_
          refine wpAnyH_all (rs := [8]) (by kernel_rfl) (by simp) (fun i hi => ?_)
          obtain rfl := List.mem_singleton.1 hi
          refine wpOp_step rfl (fun K' hK' => ?_)
          go_simp
          refine hK' _ _ ⟨trivial, ?_⟩
          clear hK' K' hi
          refine wpAnyH_all (rs := [9]) (by kernel_rfl) (by simp) (fun i hi => ?_)
          obtain rfl := List.mem_singleton.1 hi
          refine wpOp_step rfl (fun K' hK' => ?_)
          go_simp
          refine hK' _ _ ⟨trivial, ?_⟩
          clear hK' K' hi
          refine wpAnyH_done (by kernel_rfl) ?_ _
          exact HF.out
      · have HW : Hid (Word (v5 * 4 + cv) (m5 + 2) (bs ++ codeK x.key)) := by
          have := h5.word.next x.key (by rw [ck3]; omega)
          rw [ck3, hcv] at this
          exact this
        have HOR : Hid (bits .or .u64 (IntKind.u64.wrap ((v5 : Int) * 4)) (cv : Int) = ((v5 * 4 + cv : Nat) : Int)) := or_word2 v5 cv (by have := HW.out.1; have h2 : 2 ^ (m5 + 2) ≤ 2 ^ 64 := Nat.pow_le_pow_right (by decide) (by omega); simp only [Nat.reducePow] at h2; omega) (by rw [← hcv]; exact ck2)
        gi_wp2_with (refine ⟨trivial, ?_⟩; gi_at_call 54; refine (CallsIn.inRound l' hc).mono ?_; clear hc; rintro e V2 ⟨rfl, hb2⟩; have H6 := Lib.hid (h5.up hb2); have d2 := H6.out.fm.cell; have d3 := H6.out.fb.cell; have d4 := H6.out.fn.cell; have d5 := H6.out.fw.cell; have f2 := H6.out.fm.frozen; have f5 := H6.out.fw.frozen)
        have HK : Hid (Kept (fun k => k = w.heap.size ∨ k = w.heap.size + 1 ∨ k = w1.heap.size ∨ k = w1.heap.size + 1) V V2) := Kept.below hb2 (Nat.le_refl _)
        have HL := Lib.hid ((H6.out.drew).gather HAP.out HW.out)
        have HF : Hid (Kept (fun k => k = w.heap.size ∨ k = w.heap.size + 1 ∨ k = w1.heap.size ∨ k = w1.heap.size + 1) V ((V2.drew.setCell ⟨w1.heap.size, 0, none⟩ (.int .u64 ((v5 * 4 + cv : Nat) : Int))).setCell ⟨w1.heap.size + 1, 0, none⟩ (.int .i64 ((m5 + 2 : Nat) : Int))) ∧ (x.n = 0 ∨ x.n = 2) ∧ LB w w.heap.size (w.heap.size + 1) w1.heap.size (w1.heap.size + 1) l n (((q ++ [x]).map It.key).flatMap codeK) ((V2.drew.setCell ⟨w1.heap.size, 0, none⟩ (.int .u64 ((v5 * 4 + cv : Nat) : Int))).setCell ⟨w1.heap.size + 1, 0, none⟩ (.int .i64 ((m5 + 2 : Nat) : Int)))) :=
          ⟨((HK.out.trans (⟨Nat.le_refl _, fun _ _ _ => rfl⟩ : Kept _ V2 V2.drew)).setCell (p := ⟨w1.heap.size, 0, none⟩) (.inr (.inr (.inl rfl))) _).setCell (p := ⟨w1.heap.size + 1, 0, none⟩) (.inr (.inr (.inr rfl))) _, hx2, dn, bs ++ codeK x.key, A5, c5, _, _, HL.out, by rw [← List.append_assoc, e5]; simp⟩
        have HWR : Hid (IntKind.i64.wrap ((m5 : Int) + 2) = (m5 : Int) + 2) := by show _ = _; rw [IntKind.wrap_i64]; omega
        have m56 : w1.heap.size ≠ w1.heap.size + 1 := by omega
        have d2' : ∀ u, (V2.drew.setCell ⟨w1.heap.size, 0, none⟩ u).cell? ⟨w1.heap.size + 1, 0, none⟩ = some (.int .i64 (m5 : Int)) := fun u => (World.cell?_setCell_other _ _ _ _ (fun e => by injection e; omega)).trans d2
        clear hb2 HL HK H6 h5 e5 hcv hq hx2 hlen hdl hdb hV5 hl5 ck1 ck2 HCV HCN hlb hnm hnn hsv
        refine region_heldIn (fun _ => True) hmx (by kernel_rfl) (fun _ _ h => h) ?_
        refine wpAnyH_take (i := 1) (v := .int .i64 2) rfl (by kernel_rfl) (by kernel_rfl) (by kernel_rfl) (fun _ _ _ h => h) (.inl ⟨by kernel_rfl, fun w _ => by go_simp⟩) trivial ?_
        refine wpAnyH_take (i := 3) (v := .int .u64 (cv : Int)) rfl (by kernel_rfl) (by kernel_rfl) (by kernel_rfl) (fun _ _ _ h => h) (.inl ⟨by kernel_rfl, fun w _ => by go_simp⟩) trivial ?_
        refine wpAnyH_take (i := 6) (v := .int .i64 2) rfl (by kernel_rfl) (by kernel_rfl) (by kernel_rfl) (fun _ _ _ h => h) (.inl ⟨by kernel_rfl, fun w _ => by go_simp⟩) trivial ?_
        refine wpAnyH_all (rs := [0, 5]) (by kernel_rfl) (by simp) (fun i hi => ?_)
        obtain rfl | rfl : i = 0 ∨ i = 5 := by simpa using hi
        · skip
          refine wpOp_step rfl (fun K' hK' => ?_)
          go_simp
          refine hK' _ _ ⟨trivial, ?_⟩
          clear hK' K' hi
          refine wpAnyH_take (i := 2) (v := .int .u64 (IntKind.u64.wrap ((v5 : Int) * 4))) rfl (by kernel_rfl) (by kernel_rfl) (by kernel_rfl) (fun _ _ _ h => h) (.inl ⟨by kernel_rfl, fun w _ => by go_simp⟩) trivial ?_
          refine wpAnyH_take (i := 4) (v := .int .u64 ((v5 * 4 + cv : Nat) : Int)) rfl (by kernel_rfl) (by kernel_rfl) (by kernel_rfl) (fun _ _ _ h => h) (.inl ⟨by kernel_rfl, fun w _ => by go_simp; exact HOR.out⟩) trivial ?_
          refine wpAnyH_all (rs := [5, 8]) (by kernel_rfl) (by simp) (fun i hi => ?_)
          obtain rfl | rfl : i = 5 ∨ i = 8 := by simpa using hi
          · skip
            refine wpOp_step rfl (fun K' hK' => ?_)
            go_simp
            refine hK' _ _ ⟨trivial, ?_⟩
            clear hK' K' hi
            refine wpAnyH_take (i := 7) (v := .int .i64 ((m5 + 2 : Nat) : Int)) rfl (by kernel_rfl) (by kernel_rfl) (by kernel_rfl) (fun _ _ _ h => h) (.inl ⟨by kernel_rfl, fun w _ => by go_simp; exact HWR.out⟩) trivial ?_
            refine wpAnyH_all (rs := [8]) (by kernel_rfl) (by simp) (fun i hi => ?_)
            obtain rfl := List.mem_singleton.1 hi
            refine wpOp_step rfl (fun K' hK' => ?_)
            go_simp
            refine hK' _ _ ⟨trivial, ?_⟩
            clear hK' K' hi
            refine wpAnyH_all (rs := [9]) (by kernel_rfl) (by simp) (fun i hi => ?_)
            obtain rfl := List.mem_singleton.1 hi
            refine wpOp_step rfl (fun K' hK' => ?_)
            go_simp
            refine hK' _ _ ⟨trivial, ?_⟩
            clear hK' K' hi
            refine wpAnyH_done (by kernel_rfl) ?_ _
            exact HF.out
          · skip
            refine wpOp_step rfl (fun K' hK' => ?_)
            go_simp
            refine hK' _ _ ⟨trivial, ?_⟩
            clear hK' K' hi
            refine wpAnyH_all (rs := [5]) (by kernel_rfl) (by simp) (fun i hi => ?_)
            obtain rfl := List.mem_singleton.1 hi
            refine wpOp_step rfl (fun K' hK' => ?_)
            go_simp
            refine hK' _ _ ⟨trivial, ?_⟩
            clear hK' K' hi
            refine wpAnyH_take (i := 7) (v := .int .i64 ((m5 + 2 : Nat) : Int)) rfl (by kernel_rfl) (by kernel_rfl) (by kernel_rfl) (fun _ _ _ h => h) (.inl ⟨by kernel_rfl, fun w _ => by go_simp; exact HWR.out⟩) trivial ?_
            refine wpAnyH_all (rs := [9]) (by kernel_rfl) (by simp) (fun i hi => ?_)
            obtain rfl := List.mem_singleton.1 hi
            refine wpOp_step rfl (fun K' hK' => ?_)
            go_simp
            refine hK' _ _ ⟨trivial, ?_⟩
            clear hK' K' hi
            refine wpAnyH_done (by kernel_rfl) ?_ _
            exact HF.out
        · skip
          refine wpOp_step rfl (fun K' hK' => ?_)
          go_simp
          refine hK' _ _ ⟨trivial, ?_⟩
          clear hK' K' hi
          refine wpAnyH_take (i := 7) (v := .int .i64 ((m5 + 2 : Nat) : Int)) rfl (by kernel_rfl) (by kernel_rfl) (by kernel_rfl) (fun _ _ _ h => h) (.inl ⟨by kernel_rfl, fun w _ => by go_simp; exact HWR.out⟩) trivial ?_
          refine wpAnyH_all (rs := [0]) (by kernel_rfl) (by simp) (fun i hi => ?_)
          obtain rfl := List.mem_singleton.1 hi
          refine wpOp_step rfl (fun K' hK' => ?_)
          go_simp
          refine hK' _ _ ⟨trivial, ?_⟩
          clear hK' K' hi
          refine wpAnyH_take (i := 2) (v := .int .u64 (IntKind.u64.wrap ((v5 : Int) * 4))) rfl (by kernel_rfl) (by kernel_rfl) (by kernel_rfl) (fun _ _ _ h => h) (.inl ⟨by kernel_rfl, fun w _ => by go_simp⟩) trivial ?_
          refine wpAnyH_take (i := 4) (v := .int .u64 ((v5 * 4 + cv : Nat) : Int)) rfl (by kernel_rfl) (by kernel_rfl) (by kernel_rfl) (fun _ _ _ h => h) (.inl ⟨by kernel_rfl, fun w _ => by go_simp; exact HOR.out⟩) trivial ?_
          refine wpAnyH_all (rs := [8]) (by kernel_rfl) (by simp) (fun i hi => ?_)
          obtain rfl := List.mem_singleton.1 hi
          refine wpOp_step rfl (fun K' hK' => ?_)
          go_simp
          refine hK' _ _ ⟨trivial, ?_⟩
          clear hK' K' hi
          refine wpAnyH_all (rs := [9]) (by kernel_rfl) (by simp) (fun i hi => ?_)
          obtain rfl := List.mem_singleton.1 hi
          refine wpOp_step rfl (fun K' hK' => ?_)
          go_simp
          refine hK' _ _ ⟨trivial, ?_⟩
          clear hK' K' hi
          refine wpAnyH_done (by kernel_rfl) ?_ _
          exact HF.out
  case done =>
    rintro D xs V hD hxs hI hdf
    rw [hxs, HCODE.out] at hI
    obtain ⟨dn, bs, A5, c5, v5, m5, h5, e5⟩ := hI
    have hlb := bits_len t.norm
    have hnm := norm_nodes t
    have hnn := HV.out.inT.2.2
    have hdl : dn.length ≤ 3071 := by
      have := congrArg List.length e5
      rw [List.length_append] at this
      omega
    have hdb : ∀ b ∈ dn, b < 2 := fun b hb => bits_lt t.norm b (by rw [← e5]; exact List.mem_append_left _ hb)
    have hV5 := M.put_valid dn HR.out.1 HVA.out hdb
    have hl5 := put_len HVA.out dn
    have hc := (callsIn_wide (n := 2)).2 (put_yes A5 c5 (M.putL l n dn) (n + dn.length) v5 m5 V h5.row (by omega) hV5 h5.word.1 h5.word.2.1)
    have HE : Hid (M.putL (M.putL l n dn) (n + dn.length) (M.digs v5 m5) = M.putL l n (bitsT t.norm) ∧ n + dn.length + m5 = n + (bitsT t.norm).length) := by
      rw [h5.word.2.2, ← e5, ← M.putL_append, List.length_append]
      have : bs.length = m5 := by rw [← h5.word.2.2, M.digs_length]
      exact ⟨rfl, by omega⟩
    rw [HE.out.1, HE.out.2] at hc
    have b0 := h5.fb.cell
    have b1 := h5.fn.cell
    have b2 := h5.fw.cell
    have b3 := h5.fm.cell
    obtain ⟨L5, hL5⟩ : ∃ L, M.putL l n dn = L := ⟨_, rfl⟩
    obtain ⟨n5, hn5⟩ : ∃ k, n + dn.length = k := ⟨_, rfl⟩
    rw [hL5] at hc b0
    rw [hn5] at hc b1
    obtain ⟨L6, hL6⟩ : ∃ L, M.putL l n (bitsT t.norm) = L := ⟨_, rfl⟩
    obtain ⟨n6, hn6⟩ : ∃ k, n + (bitsT t.norm).length = k := ⟨_, rfl⟩
    rw [hL6, hn6] at hc
    have HL6 := Lib.hid hL6
    have HN6 := Lib.hid hn6
    have HB5 := Lib.hid h5.bel
    have hDV := (Array.getElem?_eq_some_iff.1 hdf).1
    have HDF := Lib.hid hdf
    clear hseq HL0 h5 e5 hlb hnm hnn hdl hdb hV5 hl5 HE hL5 hn5 hL6 hn6 hxs hdf
    gi_wp2_with (refine ⟨trivial, ?_⟩; gi_at_call 55; refine hc.mono ?_; clear hc; rintro e w9 ⟨A9, c9, rfl, hr9, hb9⟩)
    have hdf9 : w9.heap[D]? = some (.deferred (some [])) := (hb9.block D hDV).trans HDF.out
    have HB9 : Hid (∀ o', Below w.heap.size w (w9.putObj D o')) := fun o' => (HB5.out.trans (hb9.mono HB5.out.size)).trans (belowK_b (w := w) (Nat.le_refl _) w9 D _ _ (by have := hb4w.size; omega) hdf9 rfl rfl)
    have HR9 : Hid (∀ o', BR (w9.putObj D o') (w9.putObj D o').heap.size A9 L6) := fun o' => BR.put hr9 hdf9 o'
    refine ⟨by simp, .inl ⟨_, _, rfl, run_takeDeferred hdf9, ?_⟩⟩
    exact ⟨_, results_tmp3 rfl _ _ _, ⟨A9, c9, by rw [HL6.out, HN6.out]; rfl, by rw [HL6.out]; exact HR9.out _⟩, HB9.out _⟩
  case stop => exact fun D cd q V _ _ h => h.elim
end Go.Proofs.Ytkpefelakhbkhaa.I

namespace Go.Proofs.Ytkpefelakhbkhaa.I
open Go.RowKit

set_option maxRecDepth 100000 in
set_option maxHeartbeats 1600000 in
theorem lay_tree (A : Option Addr) (c : Nat) (l : List Nat) (n : Int) (T : Option Tr) (v : Value) (w : World) (hr : BR w w.heap.size A l) (hl : l.length ≤ 140737488351232) (h0 : -9223372036854775808 ≤ n) (h1 : n < 9223372036854775808) (hv : Arg w T v) :
    Calls Try.prog 32 #[.slice A l.length c, .int .i64 n, v] w (AnsB (layO l n T) w) := by
  obtain ⟨o, B, m, d, rfl⟩ := hv.form
  have hbW : Below w.heap.size w (((w.alloc (.cells #[.slice A l.length c] 40)).alloc (.cells #[.int .i64 n] 3)).alloc (.cells #[.bool o, .slice B m d] 24)) := three_boxes w _ _ _
  have hcr := Go.Proofs.Ytkpefelakhbkhaa.right_any A c l n (((w.alloc (.cells #[.slice A l.length c] 40)).alloc (.cells #[.int .i64 n] 3)).alloc (.cells #[.bool o, .slice B m d] 24)) _ (BR.up hr hbW) (by omega) h0 h1
  by_cases hR : M.rightB l n = true
  · cases T with
    | none =>
      have HE : Hid (layO l n none = none) := by show _ = _; unfold layO; rw [if_pos hR]
      rw [hR] at hcr
      have hct := right_arg (hv.up hbW)
      simp only [Option.isSome_none] at hct
      unfold tv at hct ⊢
      have HBW := Lib.hid hbW
      clear hv hr hbW hR
      go_enter Try.func32, Try.ntmps32
      go_wp2_with fail
      refine hcr.mono ?_
      rintro e w' ⟨rfl, rfl⟩
      clear hcr
      go_wp2_with fail
      refine hct.mono ?_
      rintro e w1 ⟨rfl, hb1⟩
      have HB := Lib.hid (HBW.out.trans (hb1.mono HBW.out.size))
      clear hct hb1 HBW
      go_wp2
      go_ret3
      rw [HE.out]
      exact ⟨rfl, HB.out⟩
    | some t =>
      obtain ⟨hn0, hV⟩ := M.rightB_true hR
      obtain ⟨N, rfl⟩ : ∃ N : Nat, n = (N : Int) := ⟨n.toNat, by omega⟩
      have := lay_main A c l N t _ w hr hl (by simpa using hV) hv
      have e : layO l (N : Int) (some t) = some (M.putL l N (bitsT t.norm), N + (bitsT t.norm).length) := by unfold layO; rw [if_pos hR]; simp
      rw [e]
      exact this
  · have hRf : M.rightB l n = false := by simpa using hR
    have HE : Hid (layO l n T = none) := if_neg hR
    rw [hRf] at hcr
    unfold tv
    have HBW := Lib.hid hbW
    clear hv hr hbW hR hRf
    go_enter Try.func32, Try.ntmps32
    go_wp2_with fail
    refine hcr.mono ?_
    rintro e w' ⟨rfl, rfl⟩
    clear hcr
    go_wp2
    go_ret3
    rw [HE.out]
    exact ⟨rfl, HBW.out⟩
end Go.Proofs.Ytkpefelakhbkhaa.I
