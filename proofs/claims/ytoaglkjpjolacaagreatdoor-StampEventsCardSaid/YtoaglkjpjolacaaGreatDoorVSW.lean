/-
  Stamps: the reference's growth.
-/
import Derived.Test.YtoaglkjpjolacaaGreatDoorVSV
import Derived.Test.YtoaglkjpjolacaaGreatDoorVSGrow4
import Derived.Test.YtoaglkjpjolacaaGreatDoorVS3
namespace Go.Proofs.YtoaglkjpjolacaaGreatDoor.S
open Go.RowKit
def RG (r : E.Tr × Cost) (w : World) (e : Ending) (w' : World) : Prop := ∃ v, e = .returned (.tuple #[v, .int .i64 (1000 * (r.2.1 : Int) + (r.2.2 : Int))]) ∧ ET w' r.1 v ∧ Below w.heap.size w w'
def RGo (i : I.Tr) : Prop := ∀ (e : E.Tr) (u v : Value) (w : World), IT w i u → ET w e v → flat i e = true → okN e → Calls Tryz.prog 42 #[u, v] w (RG (growT i e) w)
theorem cheap_iff (x y : E.Tr × Cost) (hx : x.2.2 < 1000) (hy : y.2.2 < 1000) : cheap x y = if 1000 * (x.2.1 : Int) + (x.2.2 : Int) < 1000 * (y.2.1 : Int) + (y.2.2 : Int) then x else y := by
  obtain ⟨tx, a, b⟩ := x
  obtain ⟨ty, c, d⟩ := y
  simp only at hx hy
  unfold cheap below
  simp only [Prod.mk.injEq]
  by_cases h1 : a = c
  · subst h1
    by_cases h2 : b = d
    · subst h2; simp
    · by_cases h3 : d < b
      · rw [if_pos (.inr (by simp [h3])), if_neg (by omega)]
      · rw [if_neg (by simp [h2, h3]), if_pos (by omega)]
  · by_cases h3 : c < a
    · rw [if_pos (.inr (by simp [Ne.symm h1, h3])), if_neg (by omega)]
    · rw [if_neg (by simp [h1, Ne.symm h1, h3]), if_pos (by omega)]
set_option maxRecDepth 100000 in
set_option maxHeartbeats 3200000 in
theorem rgrow_one {Ai : Option Addr} {ci : Nat} {z : Int} {B : Option Addr} {d : Nat} (w : World) (h0 : 0 ≤ z) (h1 : z ≤ 4611686018427387904) : Calls Tryz.prog 42 #[I.tv true Ai 0 ci, E.tv z B 0 d] w (RG (.leaf (z + 1), (0, 0)) w) := by
  have hw : IntKind.i64.wrap (z + 1) = z + 1 := E.wrap_id (by omega) (by omega)
  have HX0 := Lib.hid ((((SX.begin w).two (.bool true) (.slice Ai 0 ci) 24).two (.int .i64 z) (.slice B 0 d) 27).two (.int .i64 0) (.slice none 0 0) 27)
  simp only [List.nil_append, List.cons_append, World.size_alloc] at HX0
  have hi : I.InT (((w.alloc (.cells #[.bool true, .slice Ai 0 ci] 24)).alloc (.cells #[.int .i64 z, .slice B 0 d] 27)).alloc (.cells #[.int .i64 0, .slice none 0 0] 27)) 0 (.leaf true) (I.tv true Ai 0 ci) := ⟨Ai, ci, rfl⟩
  have hc := rone_any (.leaf true) _ _ hi
  rw [show one (.leaf true) = true from rfl] at hc
  clear h0 h1 hi
  unfold I.tv at hc ⊢
  unfold E.tv
  go_enter Tryz.func42, Tryz.ntmps42
  go_wp2_with fail
  refine hc.mono ?_
  rintro e w1 ⟨rfl, hb1⟩
  have HX1 := Lib.hid (HX0.out.next hb1)
  clear hc hb1 HX0
  have f := HX1.out.at0
  simp only [List.mem_cons, List.not_mem_nil, or_false, forall_eq_or_imp, forall_eq] at f
  obtain ⟨p0, p1, p2, p3, p4, p5⟩ := f
  obtain ⟨y0, y1, q0, q1, q2, q3⟩ := HX1.out.facts2 (w.heap.size + 1 + 1) (by simp)
  have HX9 := Lib.hid ((HX1.out.sub0 (bs' := []) (rs' := [(w.heap.size + 1 + 1, 2)]) (by simp) (by simp)).set2 (w.heap.size + 1 + 1) (.int .i64 (z + 1)) (.slice none 0 0) (by simp) (by simp) (by simp))
  clear HX1
  go_wp2
  have f := HX9.out.at0
  simp only [List.mem_cons, List.not_mem_nil, or_false, forall_eq_or_imp, forall_eq] at f
  obtain ⟨f0, f1⟩ := f
  refine bodyPost_ret (v := .tuple #[E.tv (z + 1) none 0 0, .int .i64 0]) (by simp [results, Tryz.f42, go_sem, E.tv, f0, f1]) rfl ?_
  exact ⟨_, rfl, ⟨none, 0, rfl⟩, HX9.out.bel⟩
set_option maxRecDepth 100000 in
set_option maxHeartbeats 12800000 in
theorem rgrow_node {l r : I.Tr} {x y : E.Tr} {bi oi ci b off c : Nat} {z oa ob : Int} {ol or' : Bool} {Al Ar Aa Ab : Option Addr} {nl cl nr cr na ca nb cb : Nat} (w : World) (ihl : zero l = false → RGo l) (ihr : zero r = false → RGo r)
    (hi : IT w (.node l r) (I.tv false (some ⟨bi, oi, none⟩) 2 ci))
    (i2 : w.cell? ⟨bi, oi, none⟩ = some (.bool ol)) (i3 : w.cell? ⟨bi, oi + 1, none⟩ = some (.slice Al nl cl)) (i4 : w.cell? ⟨bi, oi + 2, none⟩ = some (.bool or')) (i5 : w.cell? ⟨bi, oi + 3, none⟩ = some (.slice Ar nr cr))
    (il : IT w l (I.tv ol Al nl cl)) (ir : IT w r (I.tv or' Ar nr cr))
    (e0 : w.cell? ⟨b, off, none⟩ = some (.int .i64 oa)) (e1 : w.cell? ⟨b, off + 1, none⟩ = some (.slice Aa na ca)) (e2 : w.cell? ⟨b, off + 2, none⟩ = some (.int .i64 ob)) (e3 : w.cell? ⟨b, off + 3, none⟩ = some (.slice Ab nb cb))
    (ex : ET w x (E.tv oa Aa na ca)) (ey : ET w y (E.tv ob Ab nb cb)) (fx : flat l x = true) (fy : flat r y = true) (hox : okN x) (hoy : okN y) (hz : ¬ (zero l = true ∧ zero r = true)) (hdl : l.depth ≤ 900) (hdr : r.depth ≤ 900) :
    Calls Tryz.prog 42 #[I.tv false (some ⟨bi, oi, none⟩) 2 ci, E.tv z (some ⟨b, off, none⟩) 2 c] w (RG (innF l r (.node z x y)) w) := by
  have li : bi < w.heap.size := World.block_lt_of_cell? w _ i2
  have lb : b < w.heap.size := World.block_lt_of_cell? w _ e0
  have HO : Hid (∀ W, Below w.heap.size w W → W.cell? ⟨bi, oi, none⟩ = some (.bool ol) ∧ W.cell? ⟨bi, oi + 1, none⟩ = some (.slice Al nl cl) ∧ W.cell? ⟨bi, oi + 2, none⟩ = some (.bool or') ∧ W.cell? ⟨bi, oi + 3, none⟩ = some (.slice Ar nr cr) ∧ W.cell? ⟨b, off, none⟩ = some (.int .i64 oa) ∧ W.cell? ⟨b, off + 1, none⟩ = some (.slice Aa na ca) ∧ W.cell? ⟨b, off + 2, none⟩ = some (.int .i64 ob) ∧ W.cell? ⟨b, off + 3, none⟩ = some (.slice Ab nb cb)) :=
    fun W hb => ⟨(hb.cell li).trans i2, (hb.cell li).trans i3, (hb.cell li).trans i4, (hb.cell li).trans i5, (hb.cell lb).trans e0, (hb.cell lb).trans e1, (hb.cell lb).trans e2, (hb.cell lb).trans e3⟩
  have hcl := grow_cost _ l x (Nat.le_refl _)
  have hcr := grow_cost _ r y (Nat.le_refl _)
  have HIN : Hid (innF l r (.node z x y) = if zero l = true then (.node z x (growT r y).1, ((growT r y).2.1, (growT r y).2.2 + 1)) else if zero r = true then (.node z (growT l x).1 y, ((growT l x).2.1, (growT l x).2.2 + 1)) else if 1000 * ((growT l x).2.1 : Int) + ((growT l x).2.2 : Int) + 1 < 1000 * ((growT r y).2.1 : Int) + ((growT r y).2.2 : Int) + 1 then (.node z (growT l x).1 y, ((growT l x).2.1, (growT l x).2.2 + 1)) else (.node z x (growT r y).1, ((growT r y).2.1, (growT r y).2.2 + 1))) := Lib.hid (by
    have hch := cheap_iff (.node z (growT l x).1 y, ((growT l x).2.1, (growT l x).2.2 + 1)) (.node z x (growT r y).1, ((growT r y).2.1, (growT r y).2.2 + 1)) (by simp only; omega) (by simp only; omega)
    have e1 : (((growT l x).2.2 + 1 : Nat) : Int) = ((growT l x).2.2 : Int) + 1 := by omega
    have e2 : (((growT r y).2.2 + 1 : Nat) : Int) = ((growT r y).2.2 : Int) + 1 := by omega
    simp only [e1, e2, ← Int.add_assoc] at hch
    rw [← hch]
    unfold cheap
    simp only [innF]
    rw [innT])
  obtain ⟨KL, hKL⟩ : ∃ K : Int, 1000 * ((growT l x).2.1 : Int) + ((growT l x).2.2 : Int) = K := ⟨_, rfl⟩
  obtain ⟨KR, hKR⟩ : ∃ K : Int, 1000 * ((growT r y).2.1 : Int) + ((growT r y).2.2 : Int) = K := ⟨_, rfl⟩
  have kl0 : 0 ≤ KL ∧ KL ≤ 1000000 := by omega
  have kr0 : 0 ≤ KR ∧ KR ≤ 1000000 := by omega
  have HEND : Hid (∀ (X Y : Int) (T8 T9 : E.Tr), ((zero l = true → X = 1099511627776) ∧ (zero l = false → X = KL + 1 ∧ T8 = .node z (growT l x).1 y)) → ((zero r = true → Y = 1099511627776) ∧ (zero r = false → Y = KR + 1 ∧ T9 = .node z x (growT r y).1)) →
      (X < Y → ∃ c : Cost, innF l r (.node z x y) = (T8, c) ∧ 1000 * (c.1 : Int) + (c.2 : Int) = X) ∧ (¬ X < Y → ∃ c : Cost, innF l r (.node z x y) = (T9, c) ∧ 1000 * (c.1 : Int) + (c.2 : Int) = Y)) := Lib.hid (by
    intro X Y T8 T9 h1 h2
    have hin := HIN.out
    cases hzl : zero l with
    | true =>
      have hzr : zero r = false := by
        cases hq : zero r with
        | false => rfl
        | true => exact absurd ⟨hzl, hq⟩ hz
      rw [if_pos hzl] at hin
      have e1 := h1.1 hzl
      obtain ⟨e2, e3⟩ := h2.2 hzr
      refine ⟨fun h => by omega, fun _ => ⟨((growT r y).2.1, (growT r y).2.2 + 1), by rw [hin, e3], by simp only; omega⟩⟩
    | false =>
      rw [if_neg (by rw [hzl]; decide)] at hin
      obtain ⟨e2, e3⟩ := h1.2 hzl
      cases hzr : zero r with
      | true =>
        rw [if_pos hzr] at hin
        have e1 := h2.1 hzr
        refine ⟨fun _ => ⟨((growT l x).2.1, (growT l x).2.2 + 1), by rw [hin, e3], by simp only; omega⟩, fun h => by omega⟩
      | false =>
        rw [if_neg (by rw [hzr]; decide)] at hin
        obtain ⟨e4, e5⟩ := h2.2 hzr
        refine ⟨fun h => ⟨((growT l x).2.1, (growT l x).2.2 + 1), ?_, by simp only; omega⟩, fun h => ⟨((growT r y).2.1, (growT r y).2.2 + 1), ?_, by simp only; omega⟩⟩
        · rw [hin, if_pos (by omega), e3]
        · rw [hin, if_neg (by omega), e5])
  have HKL := Lib.hid hKL
  have HKR := Lib.hid hKR
  have hwl : IntKind.i64.wrap (KL + 1) = KL + 1 := E.wrap_id (by omega) (by omega)
  have hwr : IntKind.i64.wrap (KR + 1) = KR + 1 := E.wrap_id (by omega) (by omega)
  obtain ⟨kl1, kl2⟩ := kl0
  obtain ⟨kr1, kr2⟩ := kr0
  clear hKL hKR HIN hz
  have HI := Lib.hid hi
  have IL := Lib.hid il
  have IR := Lib.hid ir
  have EX := Lib.hid ex
  have EY := Lib.hid ey
  have IHL := Lib.hid ihl
  have IHR := Lib.hid ihr
  have FX := Lib.hid fx
  have FY := Lib.hid fy
  have OX := Lib.hid hox
  have OY := Lib.hid hoy
  clear hi i2 i3 i4 i5 il ir e0 e1 e2 e3 ex ey ihl ihr fx fy hox hoy li lb hcl hcr hdl hdr
  have HX0 := Lib.hid ((((SX.begin w).two (.bool false) (.slice (some ⟨bi, oi, none⟩) 2 ci) 24).two (.int .i64 z) (.slice (some ⟨b, off, none⟩) 2 c) 27).two (.int .i64 0) (.slice none 0 0) 27)
  simp only [List.nil_append, List.cons_append, World.size_alloc] at HX0
  have hc := rone_any (.node l r) (I.tv false (some ⟨bi, oi, none⟩) 2 ci) _ (HI.out.up HX0.out.bel)
  rw [show one (.node l r) = false from rfl] at hc
  unfold I.tv at hc ⊢
  unfold E.tv
  go_enter Tryz.func42, Tryz.ntmps42
  go_wp2_with fail
  refine hc.mono ?_
  rintro e w1 ⟨rfl, hb1⟩
  have s1 : w.heap.size + 3 ≤ w1.heap.size := by
    have h1 := hb1.size
    have h2 := (HX0.out.box (w.heap.size + 1 + 1, 2) (by simp)).1.lt
    omega
  have HX1 := Lib.hid (((HX0.out.next hb1).two (.int .i64 0) (.slice none 0 0) 27).two (.int .i64 0) (.slice none 0 0) 27)
  simp only [List.nil_append, List.cons_append, World.size_alloc] at HX1
  have f := HX0.out.next hb1 |>.at0
  simp only [List.mem_cons, List.not_mem_nil, or_false, forall_eq_or_imp, forall_eq] at f
  obtain ⟨p0, p1, p2, p3, p4, p5⟩ := f
  clear hc hb1 HX0
  go_upto_region 10 with fail
  have s2 : w1.heap.size + 2 ≤ ((w1.alloc (.cells #[.int .i64 0, .slice none 0 0] 27)).alloc (.cells #[.int .i64 0, .slice none 0 0] 27)).heap.size := by simp
  generalize (w1.alloc (.cells #[.int .i64 0, .slice none 0 0] 27)).alloc (.cells #[.int .i64 0, .slice none 0 0] 27) = w2 at *
  have HX2 := Lib.hid (HX1.out.sub (bs' := [(w.heap.size, 0, .bool false), (w.heap.size, 1, .slice (some ⟨bi, oi, none⟩) 2 ci), (w.heap.size + 1, 0, .int .i64 z), (w.heap.size + 1, 1, .slice (some ⟨b, off, none⟩) 2 c), (w1.heap.size, 0, .int .i64 0), (w1.heap.size, 1, .slice none 0 0), (w1.heap.size + 1, 0, .int .i64 0), (w1.heap.size + 1, 1, .slice none 0 0)]) (rs' := [(w.heap.size + 1 + 1, 2), (w1.heap.size, 2), (w1.heap.size + 1, 2)]) (is' := []) (es' := []) (by simp) (by simp) (by simp) (by simp))
  clear HX1 p0 p1 p2 p3 p4 p5
  obtain ⟨a0, a1, a2, a3, a4, a5, a6, a7⟩ := HO.out w2 HX2.out.bel
  have f := HX2.out.at0
  simp only [List.mem_cons, List.not_mem_nil, or_false, forall_eq_or_imp, forall_eq] at f
  obtain ⟨p0, p1, p2, p3, p4, p5, p6, p7⟩ := f
  have hc := rnone_any l (I.tv ol Al nl cl) w2 (IL.out.up HX2.out.bel)
  unfold I.tv at hc
  obtain ⟨zl, hzl⟩ : ∃ q, zero l = q := ⟨_, rfl⟩
  rw [hzl] at hc
  go_wp2_with fail
  refine hc.mono ?_
  rintro e w3 ⟨rfl, hb3⟩
  have sw3 : w1.heap.size + 2 ≤ w3.heap.size := by
    have h1 := hb3.size
    have h2 := (HX2.out.box (w1.heap.size + 1, 2) (by simp)).1.lt
    omega
  have HXN := Lib.hid (HX2.out.next hb3)
  have HZV := Lib.hid hzl
  clear hc hb3 HX2 hzl a0 a1 a2 a3 a4 a5 a6 a7 p0 p1 p2 p3 p4 p5 p6 p7
  go_upto_if 53 with fail
  go_cut [10] (fun s10 wx => ∃ (X : Int) (T8 : E.Tr) (z8 : Int) (A8 : Option Addr) (n8 c8 : Nat), s10 = .int .i64 X ∧ SX w [(w.heap.size, 0, .bool false), (w.heap.size, 1, .slice (some ⟨bi, oi, none⟩) 2 ci), (w.heap.size + 1, 0, .int .i64 z), (w.heap.size + 1, 1, .slice (some ⟨b, off, none⟩) 2 c), (w1.heap.size, 0, .int .i64 z8), (w1.heap.size, 1, .slice A8 n8 c8), (w1.heap.size + 1, 0, .int .i64 0), (w1.heap.size + 1, 1, .slice none 0 0)] [(w.heap.size + 1 + 1, 2), (w1.heap.size, 2), (w1.heap.size + 1, 2)] [] [(T8, E.tv z8 A8 n8 c8)] wx ∧ Hid ((zero l = true → X = 1099511627776) ∧ (zero l = false → X = KL + 1 ∧ T8 = .node z (growT l x).1 y)))
  case first =>
    cases zl with
    | true =>
      go_wp2_with fail
      go_meet
      exact ⟨1099511627776, .leaf 0, 0, none, 0, 0, rfl, (HXN.out.e (t := .leaf 0) (v := E.tv 0 none 0 0) ⟨none, 0, rfl⟩).sub (by simp) (by simp) (by simp) (by simp), Lib.hid ⟨fun _ => rfl, (fun h => absurd (HZV.out.symm.trans h) (by decide))⟩⟩
    | false =>
      go_upto_region 11 with fail
      go_cut [12, 13] (fun s12 s13 wx => ∃ (g12 : Nat) (z12 : Int) (A12 : Option Addr) (n12 c12 : Nat), s12 = .pointer (some ⟨g12, 0, none⟩) ∧ s13 = .int .i64 KL ∧ w1.heap.size + 2 ≤ g12 ∧ SX w [(w.heap.size, 0, .bool false), (w.heap.size, 1, .slice (some ⟨bi, oi, none⟩) 2 ci), (w.heap.size + 1, 0, .int .i64 z), (w.heap.size + 1, 1, .slice (some ⟨b, off, none⟩) 2 c), (w1.heap.size + 1, 0, .int .i64 0), (w1.heap.size + 1, 1, .slice none 0 0), (g12, 0, .int .i64 z12), (g12, 1, .slice A12 n12 c12)] [(w.heap.size + 1 + 1, 2), (w1.heap.size, 2), (w1.heap.size + 1, 2)] [] [((growT l x).1, E.tv z12 A12 n12 c12)] wx)
      case first =>
        refine wp_region_held_drew (S := fun W => SX w [(w.heap.size, 0, .bool false), (w.heap.size, 1, .slice (some ⟨bi, oi, none⟩) 2 ci), (w.heap.size + 1, 0, .int .i64 z), (w.heap.size + 1, 1, .slice (some ⟨b, off, none⟩) 2 c), (w1.heap.size + 1, 0, .int .i64 0), (w1.heap.size + 1, 1, .slice none 0 0)] [(w.heap.size + 1 + 1, 2), (w1.heap.size, 2), (w1.heap.size + 1, 2)] [] [] W) (by kernel_rfl) ((HXN.out.drew).sub (by simp) (by simp) (by simp) (by simp)) (fun hS => ?_)
        have HXd := Lib.hid ((HXN.out.drew).sub (bs' := [(w.heap.size, 0, .bool false), (w.heap.size, 1, .slice (some ⟨bi, oi, none⟩) 2 ci), (w.heap.size + 1, 0, .int .i64 z), (w.heap.size + 1, 1, .slice (some ⟨b, off, none⟩) 2 c), (w1.heap.size + 1, 0, .int .i64 0), (w1.heap.size + 1, 1, .slice none 0 0)]) (rs' := [(w.heap.size + 1 + 1, 2), (w1.heap.size, 2), (w1.heap.size + 1, 2)]) (is' := []) (es' := []) (by simp) (by simp) (by simp) (by simp))
        have sd : w1.heap.size + 2 ≤ w3.drew.heap.size := by simpa using sw3
        clear HXN
        generalize w3.drew = wd at *
        refine wpAnyH_take (i := 0) (v := ?_) rfl (by kernel_rfl) (by kernel_rfl) (by kernel_rfl) (fun _ _ _ h => h) (Yields.yieldsIf (Or.inl ⟨by kernel_rfl, ?_⟩)) hS ?_
        rotate_left
        · first | (intro w; go_simp; done) | (intro w; go_simp; with_reducible rfl)
        refine wpAnyH_take (i := 1) (v := ?_) rfl (by kernel_rfl) (by kernel_rfl) (by kernel_rfl) (fun _ _ _ h => h) (Or.inl ⟨by kernel_rfl, fun W hW => ?_⟩) hS ?_
        rotate_left
        · obtain ⟨a0, a1, a2, a3, a4, a5, a6, a7⟩ := HO.out W hW.bel
          have f := hW.at0
          simp only [List.mem_cons, List.not_mem_nil, or_false, forall_eq_or_imp, forall_eq] at f
          obtain ⟨p0, p1, p2, p3, p4, p5⟩ := f
          first | (go_simp; done) | (go_simp; with_reducible rfl)
        refine wpAnyH_take (i := 2) (v := ?_) rfl (by kernel_rfl) (by kernel_rfl) (by kernel_rfl) (fun _ _ _ h => h) (Yields.yieldsIf (Or.inl ⟨by kernel_rfl, ?_⟩)) hS ?_
        rotate_left
        · first | (intro w; go_simp; done) | (intro w; go_simp; with_reducible rfl)
        refine wpAnyH_take (i := 3) (v := ?_) rfl (by kernel_rfl) (by kernel_rfl) (by kernel_rfl) (fun _ _ _ h => h) (Or.inl ⟨by kernel_rfl, fun W hW => ?_⟩) hS ?_
        rotate_left
        · obtain ⟨a0, a1, a2, a3, a4, a5, a6, a7⟩ := HO.out W hW.bel
          have f := hW.at0
          simp only [List.mem_cons, List.not_mem_nil, or_false, forall_eq_or_imp, forall_eq] at f
          obtain ⟨p0, p1, p2, p3, p4, p5⟩ := f
          first | (go_simp; done) | (go_simp; with_reducible rfl)
        refine wpAnyH_take (i := 4) (v := ?_) rfl (by kernel_rfl) (by kernel_rfl) (by kernel_rfl) (fun _ _ _ h => h) (Yields.yieldsIf (Or.inl ⟨by kernel_rfl, ?_⟩)) hS ?_
        rotate_left
        · first | (intro w; go_simp; done) | (intro w; go_simp; with_reducible rfl)
        refine wpAnyH_take (i := 5) (v := ?_) rfl (by kernel_rfl) (by kernel_rfl) (by kernel_rfl) (fun _ _ _ h => h) (Or.inl ⟨by kernel_rfl, fun W hW => ?_⟩) hS ?_
        rotate_left
        · obtain ⟨a0, a1, a2, a3, a4, a5, a6, a7⟩ := HO.out W hW.bel
          have f := hW.at0
          simp only [List.mem_cons, List.not_mem_nil, or_false, forall_eq_or_imp, forall_eq] at f
          obtain ⟨p0, p1, p2, p3, p4, p5⟩ := f
          first | (go_simp; done) | (go_simp; with_reducible rfl)
        refine wpAnyH_take (i := 6) (v := ?_) rfl (by kernel_rfl) (by kernel_rfl) (by kernel_rfl) (fun _ _ _ h => h) (Yields.yieldsIf (Or.inl ⟨by kernel_rfl, ?_⟩)) hS ?_
        rotate_left
        · first | (intro w; go_simp; done) | (intro w; go_simp; with_reducible rfl)
        refine wpAnyH_take (i := 7) (v := ?_) rfl (by kernel_rfl) (by kernel_rfl) (by kernel_rfl) (fun _ _ _ h => h) (Or.inl ⟨by kernel_rfl, fun W hW => ?_⟩) hS ?_
        rotate_left
        · obtain ⟨a0, a1, a2, a3, a4, a5, a6, a7⟩ := HO.out W hW.bel
          have f := hW.at0
          simp only [List.mem_cons, List.not_mem_nil, or_false, forall_eq_or_imp, forall_eq] at f
          obtain ⟨p0, p1, p2, p3, p4, p5⟩ := f
          first | (go_simp; done) | (go_simp; with_reducible rfl)
        try go_simp
        refine wpAnyH_ready (rs := [8, 12]) (by kernel_rfl) (by simp) ?_
        refine AllReadyH.cons rfl (fun K hK => ?_) (AllReadyH.cons rfl (fun K hK => ?_) AllReadyH.nil)
        · have hcall := (IHL.out HZV.out) x (I.tv ol Al nl cl) (E.tv oa Aa na ca) wd (IL.out.up HXd.out.bel) (E.InP.up EX.out HXd.out.bel) FX.out OX.out
          unfold I.tv E.tv at hcall
          go_simp
          go_wp2_with fail
          refine hcall.mono ?_
          rintro e wdx ⟨v12, rfl, ht12, hbx⟩
          rw [HKL.out]
          obtain ⟨A12, n12, c12, rfl⟩ := E.InP.form ht12
          obtain ⟨z12, hz12⟩ : ∃ q, (growT l x).1.N = q := ⟨_, rfl⟩
          rw [hz12] at ht12 ⊢
          clear hz12
          have HXdx := Lib.hid ((HXd.out.next hbx).e ht12)
          have szwdx : wd.heap.size ≤ wdx.heap.size := hbx.size
          clear hcall ht12 hbx HXd
          unfold E.tv
          refine hK.out _ _ (HXdx.out.sub (by simp) (by simp) (by simp) (by simp)) (fun hS => ?_)
          clear hK K
          refine wpAnyH_take (i := 9) (v := ?_) rfl (by kernel_rfl) (by kernel_rfl) (by kernel_rfl) (fun _ _ _ h => h) (Yields.yieldsIf (Or.inl ⟨by kernel_rfl, ?_⟩)) hS ?_
          rotate_left
          · first | (intro w; go_simp; done) | (intro w; go_simp; with_reducible rfl)
          refine wpAnyH_take (i := 10) (v := ?_) rfl (by kernel_rfl) (by kernel_rfl) (by kernel_rfl) (fun _ _ _ h => h) (Yields.yieldsIf (Or.inl ⟨by kernel_rfl, ?_⟩)) hS ?_
          rotate_left
          · first | (intro w; go_simp; done) | (intro w; go_simp; with_reducible rfl)
          refine wpAnyH_take (i := 11) (v := ?_) rfl (by kernel_rfl) (by kernel_rfl) (by kernel_rfl) (fun _ _ _ h => h) (Yields.yieldsIf (Or.inl ⟨by kernel_rfl, ?_⟩)) hS ?_
          rotate_left
          · first | (intro w; go_simp; done) | (intro w; go_simp; with_reducible rfl)
          try go_simp
          refine wpAnyH_ready (rs := [12]) (by kernel_rfl) (by simp) ?_
          refine AllReadyH.cons rfl (fun K hK => ?_) AllReadyH.nil
          go_simp
          go_wp2
          have HXdxx' := HXdx.out.two (.int .i64 0) (.slice none 0 0) 27
          have HXdxx := Lib.hid HXdxx'
          clear HXdxx' HXdx
          simp only [List.nil_append, List.cons_append] at HXdxx
          refine hK.out _ _ (HXdxx.out.sub (by simp) (by simp) (by simp) (by simp)) (fun hS => ?_)
          clear hK K
          have szwdxx : wdx.heap.size < (wdx.alloc (.cells #[.int .i64 0, .slice none 0 0] 27)).heap.size := by simp
          generalize wdx.alloc (.cells #[.int .i64 0, .slice none 0 0] 27) = wdxx at *
          try go_simp
          refine wpAnyH_ready (rs := [13]) (by kernel_rfl) (by simp) ?_
          refine AllReadyH.cons rfl (fun K hK => ?_) AllReadyH.nil
          obtain ⟨y0, y1, q0, q1, q2, q3⟩ := HXdxx.out.facts2 (wdx.heap.size) (by simp)
          go_simp
          go_wp2
          have HXdxxx := Lib.hid ((HXdxx.out.sub (bs' := [(w.heap.size, 0, .bool false), (w.heap.size, 1, .slice (some ⟨bi, oi, none⟩) 2 ci), (w.heap.size + 1, 0, .int .i64 z), (w.heap.size + 1, 1, .slice (some ⟨b, off, none⟩) 2 c), (w1.heap.size + 1, 0, .int .i64 0), (w1.heap.size + 1, 1, .slice none 0 0)]) (rs' := [(w.heap.size + 1 + 1, 2), (w1.heap.size, 2), (w1.heap.size + 1, 2), (wdx.heap.size, 2)]) (is' := []) (es' := [((growT l x).1, E.tv z12 A12 n12 c12)]) (by simp) (by simp) (by simp) (by simp)).set2 (wdx.heap.size) (.int .i64 z12) (.slice A12 n12 c12) (by simp) (by simp only [List.mem_cons, List.not_mem_nil, or_false, forall_eq_or_imp, forall_eq]; omega) (by simp))
          clear q0 q1 q2 q3 HXdxx
          refine hK.out _ _ (HXdxxx.out.sub (by simp) (by simp) (by simp) (by simp)) (fun hS => ?_)
          clear hK K
          generalize (wdxx.setCell ⟨wdx.heap.size, 0, none⟩ (.int .i64 z12)).setCell ⟨wdx.heap.size, 1, none⟩ (.slice A12 n12 c12) = wdxxx at *
          refine wpAnyH_take (i := 14) (v := ?_) rfl (by kernel_rfl) (by kernel_rfl) (by kernel_rfl) (fun _ _ _ h => h) (Yields.yieldsIf (Or.inl ⟨by kernel_rfl, ?_⟩)) hS ?_
          rotate_left
          · first | (intro w; go_simp; done) | (intro w; go_simp; with_reducible rfl)
          try go_simp
          refine wpAnyH_done (by kernel_rfl) ?_ _
          go_wp2_with fail
          go_meet
          exact ⟨wdx.heap.size, z12, A12, n12, c12, rfl, rfl, by omega, HXdxxx.out.sub (by simp) (by simp) (by simp) (by simp)⟩
        · go_simp
          go_wp2
          have HXdx' := HXd.out.two (.int .i64 0) (.slice none 0 0) 27
          have HXdx := Lib.hid HXdx'
          clear HXdx' HXd
          simp only [List.nil_append, List.cons_append] at HXdx
          refine hK.out _ _ (HXdx.out.sub (by simp) (by simp) (by simp) (by simp)) (fun hS => ?_)
          clear hK K
          have szwdx : wd.heap.size < (wd.alloc (.cells #[.int .i64 0, .slice none 0 0] 27)).heap.size := by simp
          generalize wd.alloc (.cells #[.int .i64 0, .slice none 0 0] 27) = wdx at *
          try go_simp
          refine wpAnyH_ready (rs := [8]) (by kernel_rfl) (by simp) ?_
          refine AllReadyH.cons rfl (fun K hK => ?_) AllReadyH.nil
          have hcall := (IHL.out HZV.out) x (I.tv ol Al nl cl) (E.tv oa Aa na ca) wdx (IL.out.up HXdx.out.bel) (E.InP.up EX.out HXdx.out.bel) FX.out OX.out
          unfold I.tv E.tv at hcall
          go_simp
          go_wp2_with fail
          refine hcall.mono ?_
          rintro e wdxx ⟨v12, rfl, ht12, hbx⟩
          rw [HKL.out]
          obtain ⟨A12, n12, c12, rfl⟩ := E.InP.form ht12
          obtain ⟨z12, hz12⟩ : ∃ q, (growT l x).1.N = q := ⟨_, rfl⟩
          rw [hz12] at ht12 ⊢
          clear hz12
          have HXdxx := Lib.hid ((HXdx.out.next hbx).e ht12)
          have szwdxx : wdx.heap.size ≤ wdxx.heap.size := hbx.size
          clear hcall ht12 hbx HXdx
          unfold E.tv
          refine hK.out _ _ (HXdxx.out.sub (by simp) (by simp) (by simp) (by simp)) (fun hS => ?_)
          clear hK K
          refine wpAnyH_take (i := 9) (v := ?_) rfl (by kernel_rfl) (by kernel_rfl) (by kernel_rfl) (fun _ _ _ h => h) (Yields.yieldsIf (Or.inl ⟨by kernel_rfl, ?_⟩)) hS ?_
          rotate_left
          · first | (intro w; go_simp; done) | (intro w; go_simp; with_reducible rfl)
          refine wpAnyH_take (i := 10) (v := ?_) rfl (by kernel_rfl) (by kernel_rfl) (by kernel_rfl) (fun _ _ _ h => h) (Yields.yieldsIf (Or.inl ⟨by kernel_rfl, ?_⟩)) hS ?_
          rotate_left
          · first | (intro w; go_simp; done) | (intro w; go_simp; with_reducible rfl)
          refine wpAnyH_take (i := 11) (v := ?_) rfl (by kernel_rfl) (by kernel_rfl) (by kernel_rfl) (fun _ _ _ h => h) (Yields.yieldsIf (Or.inl ⟨by kernel_rfl, ?_⟩)) hS ?_
          rotate_left
          · first | (intro w; go_simp; done) | (intro w; go_simp; with_reducible rfl)
          try go_simp
          refine wpAnyH_ready (rs := [13]) (by kernel_rfl) (by simp) ?_
          refine AllReadyH.cons rfl (fun K hK => ?_) AllReadyH.nil
          obtain ⟨y0, y1, q0, q1, q2, q3⟩ := HXdxx.out.facts2 (wd.heap.size) (by simp)
          go_simp
          go_wp2
          have HXdxxx := Lib.hid ((HXdxx.out.sub (bs' := [(w.heap.size, 0, .bool false), (w.heap.size, 1, .slice (some ⟨bi, oi, none⟩) 2 ci), (w.heap.size + 1, 0, .int .i64 z), (w.heap.size + 1, 1, .slice (some ⟨b, off, none⟩) 2 c), (w1.heap.size + 1, 0, .int .i64 0), (w1.heap.size + 1, 1, .slice none 0 0)]) (rs' := [(w.heap.size + 1 + 1, 2), (w1.heap.size, 2), (w1.heap.size + 1, 2), (wd.heap.size, 2)]) (is' := []) (es' := [((growT l x).1, E.tv z12 A12 n12 c12)]) (by simp) (by simp) (by simp) (by simp)).set2 (wd.heap.size) (.int .i64 z12) (.slice A12 n12 c12) (by simp) (by simp only [List.mem_cons, List.not_mem_nil, or_false, forall_eq_or_imp, forall_eq]; omega) (by simp))
          clear q0 q1 q2 q3 HXdxx
          refine hK.out _ _ (HXdxxx.out.sub (by simp) (by simp) (by simp) (by simp)) (fun hS => ?_)
          clear hK K
          generalize (wdxx.setCell ⟨wd.heap.size, 0, none⟩ (.int .i64 z12)).setCell ⟨wd.heap.size, 1, none⟩ (.slice A12 n12 c12) = wdxxx at *
          refine wpAnyH_take (i := 14) (v := ?_) rfl (by kernel_rfl) (by kernel_rfl) (by kernel_rfl) (fun _ _ _ h => h) (Yields.yieldsIf (Or.inl ⟨by kernel_rfl, ?_⟩)) hS ?_
          rotate_left
          · first | (intro w; go_simp; done) | (intro w; go_simp; with_reducible rfl)
          try go_simp
          refine wpAnyH_done (by kernel_rfl) ?_ _
          go_wp2_with fail
          go_meet
          exact ⟨wd.heap.size, z12, A12, n12, c12, rfl, rfl, by omega, HXdxxx.out.sub (by simp) (by simp) (by simp) (by simp)⟩
      case rest =>
      obtain ⟨g12, z12, A12, n12, c12, rfl, rfl, hg12, hX⟩ := hcut
      have HXQ := Lib.hid hX
      clear hX
      go_upto_region 12 with fail
      refine wp_region_held_drew (S := fun W => SX w [(w.heap.size, 0, .bool false), (w.heap.size, 1, .slice (some ⟨bi, oi, none⟩) 2 ci), (w.heap.size + 1, 0, .int .i64 z), (w.heap.size + 1, 1, .slice (some ⟨b, off, none⟩) 2 c), (w1.heap.size + 1, 0, .int .i64 0), (w1.heap.size + 1, 1, .slice none 0 0), (g12, 0, .int .i64 z12), (g12, 1, .slice A12 n12 c12)] [(w.heap.size + 1 + 1, 2), (w1.heap.size, 2), (w1.heap.size + 1, 2)] [] [((growT l x).1, E.tv z12 A12 n12 c12)] W) (by kernel_rfl) (HXQ.out.drew) (fun hS => ?_)
      have HXd := Lib.hid (HXQ.out.drew)
      have sd2 : w1.heap.size + 2 ≤ wc.drew.heap.size := by have := (HXQ.out.box (w1.heap.size + 1, 2) (by simp)).1.lt; simp; omega
      clear HXQ
      generalize wc.drew = wd at *
      refine wpAnyH_take (i := 0) (v := ?_) rfl (by kernel_rfl) (by kernel_rfl) (by kernel_rfl) (fun _ _ _ h => h) (Yields.yieldsIf (Or.inl ⟨by kernel_rfl, ?_⟩)) hS ?_
      rotate_left
      · first | (intro w; go_simp; done) | (intro w; go_simp; with_reducible rfl)
      refine wpAnyH_take (i := 1) (v := ?_) rfl (by kernel_rfl) (by kernel_rfl) (by kernel_rfl) (fun _ _ _ h => h) (Or.inl ⟨by kernel_rfl, fun W hW => ?_⟩) hS ?_
      rotate_left
      · obtain ⟨a0, a1, a2, a3, a4, a5, a6, a7⟩ := HO.out W hW.bel
        have f := hW.at0
        simp only [List.mem_cons, List.not_mem_nil, or_false, forall_eq_or_imp, forall_eq] at f
        obtain ⟨p0, p1, p2, p3, p4, p5, p6, p7⟩ := f
        first | (go_simp; done) | (go_simp; with_reducible rfl)
      refine wpAnyH_take (i := 2) (v := ?_) rfl (by kernel_rfl) (by kernel_rfl) (by kernel_rfl) (fun _ _ _ h => h) (Or.inl ⟨by kernel_rfl, fun W hW => ?_⟩) hS ?_
      rotate_left
      · obtain ⟨a0, a1, a2, a3, a4, a5, a6, a7⟩ := HO.out W hW.bel
        have f := hW.at0
        simp only [List.mem_cons, List.not_mem_nil, or_false, forall_eq_or_imp, forall_eq] at f
        obtain ⟨p0, p1, p2, p3, p4, p5, p6, p7⟩ := f
        first | (go_simp; done) | (go_simp; with_reducible rfl)
      refine wpAnyH_take (i := 3) (v := ?_) rfl (by kernel_rfl) (by kernel_rfl) (by kernel_rfl) (fun _ _ _ h => h) (Yields.yieldsIf (Or.inl ⟨by kernel_rfl, ?_⟩)) hS ?_
      rotate_left
      · first | (intro w; go_simp; done) | (intro w; go_simp; with_reducible rfl)
      refine wpAnyH_take (i := 4) (v := ?_) rfl (by kernel_rfl) (by kernel_rfl) (by kernel_rfl) (fun _ _ _ h => h) (Or.inl ⟨by kernel_rfl, fun W hW => ?_⟩) hS ?_
      rotate_left
      · obtain ⟨a0, a1, a2, a3, a4, a5, a6, a7⟩ := HO.out W hW.bel
        have f := hW.at0
        simp only [List.mem_cons, List.not_mem_nil, or_false, forall_eq_or_imp, forall_eq] at f
        obtain ⟨p0, p1, p2, p3, p4, p5, p6, p7⟩ := f
        first | (go_simp; done) | (go_simp; with_reducible rfl)
      refine wpAnyH_take (i := 5) (v := ?_) rfl (by kernel_rfl) (by kernel_rfl) (by kernel_rfl) (fun _ _ _ h => h) (Yields.yieldsIf (Or.inl ⟨by kernel_rfl, ?_⟩)) hS ?_
      rotate_left
      · first | (intro w; go_simp; done) | (intro w; go_simp; with_reducible rfl)
      refine wpAnyH_take (i := 6) (v := ?_) rfl (by kernel_rfl) (by kernel_rfl) (by kernel_rfl) (fun _ _ _ h => h) (Or.inl ⟨by kernel_rfl, fun W hW => ?_⟩) hS ?_
      rotate_left
      · obtain ⟨a0, a1, a2, a3, a4, a5, a6, a7⟩ := HO.out W hW.bel
        have f := hW.at0
        simp only [List.mem_cons, List.not_mem_nil, or_false, forall_eq_or_imp, forall_eq] at f
        obtain ⟨p0, p1, p2, p3, p4, p5, p6, p7⟩ := f
        first | (go_simp; done) | (go_simp; with_reducible rfl)
      try go_simp
      refine wpAnyH_ready (rs := [7]) (by kernel_rfl) (by simp) ?_
      refine AllReadyH.cons rfl (fun K hK => ?_) AllReadyH.nil
      have hba : Below wd.heap.size wd (wd.alloc (.cells #[.int .i64 z12, .slice A12 n12 c12, .int .i64 ob, .slice Ab nb cb] 27)) := (Below.refl _ _).alloc (Nat.le_refl _) _
      have hk1 : ET wd (growT l x).1 (E.tv z12 A12 n12 c12) := (HXd.out.eget (by simp))
      have hk2 : ET wd y (E.tv ob Ab nb cb) := (E.InP.up EY.out HXd.out.bel)
      have hin : ET (wd.alloc (.cells #[.int .i64 z12, .slice A12 n12 c12, .int .i64 ob, .slice Ab nb cb] 27)) (E.Tr.node z (growT l x).1 y) (E.tv z (some ⟨wd.heap.size, 0, none⟩) 2 2) := by
        refine E.two_in (P := E.Lt wd.heap.size) (heap_alloc_new wd _) (E.InP.below hk1 hba) (E.InP.below hk2 hba) (fun b h => Nat.lt_of_lt_of_le h hba.size) ?_
        show _ < _; simp
      have HXdx := Lib.hid ((HXd.out.next hba).e hin)
      clear hba hk1 hk2 hin HXd
      go_simp
      go_wp2
      refine hK.out _ _ (HXdx.out.sub (by simp) (by simp) (by simp) (by simp)) (fun hS => ?_)
      clear hK K
      have szwdx : wd.heap.size < (wd.alloc (.cells #[.int .i64 z12, .slice A12 n12 c12, .int .i64 ob, .slice Ab nb cb] 27)).heap.size := by simp
      generalize wd.alloc (.cells #[.int .i64 z12, .slice A12 n12 c12, .int .i64 ob, .slice Ab nb cb] 27) = wdx at *
      refine wpAnyH_take (i := 8) (v := ?_) rfl (by kernel_rfl) (by kernel_rfl) (by kernel_rfl) (fun _ _ _ h => h) (Yields.yieldsIf (Or.inl ⟨by kernel_rfl, ?_⟩)) hS ?_
      rotate_left
      · first | (intro w; go_simp; done) | (intro w; go_simp; with_reducible rfl)
      try go_simp
      refine wpAnyH_ready (rs := [9]) (by kernel_rfl) (by simp) ?_
      refine AllReadyH.cons rfl (fun K hK => ?_) AllReadyH.nil
      obtain ⟨y0, y1, q0, q1, q2, q3⟩ := HXdx.out.facts2 (w1.heap.size) (by simp)
      go_simp
      go_wp2
      have HXdxx := Lib.hid ((HXdx.out.sub (bs' := [(w.heap.size, 0, .bool false), (w.heap.size, 1, .slice (some ⟨bi, oi, none⟩) 2 ci), (w.heap.size + 1, 0, .int .i64 z), (w.heap.size + 1, 1, .slice (some ⟨b, off, none⟩) 2 c), (w1.heap.size + 1, 0, .int .i64 0), (w1.heap.size + 1, 1, .slice none 0 0), (g12, 0, .int .i64 z12), (g12, 1, .slice A12 n12 c12)]) (rs' := [(w.heap.size + 1 + 1, 2), (w1.heap.size, 2), (w1.heap.size + 1, 2)]) (is' := []) (es' := [((E.Tr.node z (growT l x).1 y), E.tv z (some ⟨wd.heap.size, 0, none⟩) 2 2), ((growT l x).1, E.tv z12 A12 n12 c12)]) (by simp) (by simp) (by simp) (by simp)).set2 (w1.heap.size) (.int .i64 z) (.slice (some ⟨wd.heap.size, 0, none⟩) 2 2) (by simp) (by simp only [List.mem_cons, List.not_mem_nil, or_false, forall_eq_or_imp, forall_eq]; omega) (by simp))
      clear q0 q1 q2 q3 HXdx
      refine hK.out _ _ (HXdxx.out.sub (by simp) (by simp) (by simp) (by simp)) (fun hS => ?_)
      clear hK K
      generalize (wdx.setCell ⟨w1.heap.size, 0, none⟩ (.int .i64 z)).setCell ⟨w1.heap.size, 1, none⟩ (.slice (some ⟨wd.heap.size, 0, none⟩) 2 2) = wdxx at *
      try go_simp
      refine wpAnyH_done (by kernel_rfl) ?_ _
      go_wp2_with fail
      go_meet
      exact ⟨KL + 1, (E.Tr.node z (growT l x).1 y), z, some ⟨wd.heap.size, 0, none⟩, 2, 2, rfl, HXdxx.out.sub (by simp) (by simp) (by simp) (by simp), Lib.hid ⟨(fun h => absurd (HZV.out.symm.trans h) (by decide)), fun _ => ⟨rfl, rfl⟩⟩⟩
  case rest =>
  obtain ⟨X, T8, z8, A8, n8, c8, rfl, hX, HCL⟩ := hcut
  have HXL := Lib.hid hX
  clear hX HXN HZV sw3
  obtain ⟨a0, a1, a2, a3, a4, a5, a6, a7⟩ := HO.out wc HXL.out.bel
  have f := HXL.out.at0
  simp only [List.mem_cons, List.not_mem_nil, or_false, forall_eq_or_imp, forall_eq] at f
  obtain ⟨p0, p1, p2, p3, p4, p5, p6, p7⟩ := f
  have hc := rnone_any r (I.tv or' Ar nr cr) wc (IR.out.up HXL.out.bel)
  unfold I.tv at hc
  obtain ⟨zr, hzr⟩ : ∃ q, zero r = q := ⟨_, rfl⟩
  rw [hzr] at hc
  go_wp2_with fail
  refine hc.mono ?_
  rintro e w5 ⟨rfl, hb3⟩
  have sw5 : w1.heap.size + 2 ≤ w5.heap.size := by
    have h1 := hb3.size
    have h2 := (HXL.out.box (w1.heap.size + 1, 2) (by simp)).1.lt
    omega
  have HXN := Lib.hid (HXL.out.next hb3)
  have HZV := Lib.hid hzr
  clear hc hb3 HXL hzr a0 a1 a2 a3 a4 a5 a6 a7 p0 p1 p2 p3 p4 p5 p6 p7
  go_upto_if 82 with fail
  go_cut [11] (fun s11 wx => ∃ (Y : Int) (T9 : E.Tr) (z9 : Int) (A9 : Option Addr) (n9 c9 : Nat), s11 = .int .i64 Y ∧ SX w [(w1.heap.size, 0, .int .i64 z8), (w1.heap.size, 1, .slice A8 n8 c8), (w1.heap.size + 1, 0, .int .i64 z9), (w1.heap.size + 1, 1, .slice A9 n9 c9)] [(w.heap.size + 1 + 1, 2)] [] [(T8, E.tv z8 A8 n8 c8), (T9, E.tv z9 A9 n9 c9)] wx ∧ Hid ((zero r = true → Y = 1099511627776) ∧ (zero r = false → Y = KR + 1 ∧ T9 = .node z x (growT r y).1)))
  case first =>
    cases zr with
    | true =>
      go_wp2_with fail
      go_meet
      exact ⟨1099511627776, .leaf 0, 0, none, 0, 0, rfl, (HXN.out.e (t := .leaf 0) (v := E.tv 0 none 0 0) ⟨none, 0, rfl⟩).sub (by simp) (by simp) (by simp) (by simp), Lib.hid ⟨fun _ => rfl, (fun h => absurd (HZV.out.symm.trans h) (by decide))⟩⟩
    | false =>
      go_upto_region 15 with fail
      go_cut [14, 15] (fun s12 s13 wx => ∃ (g12 : Nat) (z12 : Int) (A12 : Option Addr) (n12 c12 : Nat), s12 = .pointer (some ⟨g12, 0, none⟩) ∧ s13 = .int .i64 KR ∧ w1.heap.size + 2 ≤ g12 ∧ SX w [(w.heap.size, 0, .bool false), (w.heap.size, 1, .slice (some ⟨bi, oi, none⟩) 2 ci), (w.heap.size + 1, 0, .int .i64 z), (w.heap.size + 1, 1, .slice (some ⟨b, off, none⟩) 2 c), (w1.heap.size, 0, .int .i64 z8), (w1.heap.size, 1, .slice A8 n8 c8), (g12, 0, .int .i64 z12), (g12, 1, .slice A12 n12 c12)] [(w.heap.size + 1 + 1, 2), (w1.heap.size, 2), (w1.heap.size + 1, 2)] [] [((growT r y).1, E.tv z12 A12 n12 c12), (T8, E.tv z8 A8 n8 c8)] wx)
      case first =>
        refine wp_region_held_drew (S := fun W => SX w [(w.heap.size, 0, .bool false), (w.heap.size, 1, .slice (some ⟨bi, oi, none⟩) 2 ci), (w.heap.size + 1, 0, .int .i64 z), (w.heap.size + 1, 1, .slice (some ⟨b, off, none⟩) 2 c), (w1.heap.size, 0, .int .i64 z8), (w1.heap.size, 1, .slice A8 n8 c8)] [(w.heap.size + 1 + 1, 2), (w1.heap.size, 2), (w1.heap.size + 1, 2)] [] [(T8, E.tv z8 A8 n8 c8)] W) (by kernel_rfl) ((HXN.out.drew).sub (by simp) (by simp) (by simp) (by simp)) (fun hS => ?_)
        have HXd := Lib.hid ((HXN.out.drew).sub (bs' := [(w.heap.size, 0, .bool false), (w.heap.size, 1, .slice (some ⟨bi, oi, none⟩) 2 ci), (w.heap.size + 1, 0, .int .i64 z), (w.heap.size + 1, 1, .slice (some ⟨b, off, none⟩) 2 c), (w1.heap.size, 0, .int .i64 z8), (w1.heap.size, 1, .slice A8 n8 c8)]) (rs' := [(w.heap.size + 1 + 1, 2), (w1.heap.size, 2), (w1.heap.size + 1, 2)]) (is' := []) (es' := [(T8, E.tv z8 A8 n8 c8)]) (by simp) (by simp) (by simp) (by simp))
        have sd : w1.heap.size + 2 ≤ w5.drew.heap.size := by simpa using sw5
        clear HXN
        generalize w5.drew = wd at *
        refine wpAnyH_take (i := 0) (v := ?_) rfl (by kernel_rfl) (by kernel_rfl) (by kernel_rfl) (fun _ _ _ h => h) (Yields.yieldsIf (Or.inl ⟨by kernel_rfl, ?_⟩)) hS ?_
        rotate_left
        · first | (intro w; go_simp; done) | (intro w; go_simp; with_reducible rfl)
        refine wpAnyH_take (i := 1) (v := ?_) rfl (by kernel_rfl) (by kernel_rfl) (by kernel_rfl) (fun _ _ _ h => h) (Or.inl ⟨by kernel_rfl, fun W hW => ?_⟩) hS ?_
        rotate_left
        · obtain ⟨a0, a1, a2, a3, a4, a5, a6, a7⟩ := HO.out W hW.bel
          have f := hW.at0
          simp only [List.mem_cons, List.not_mem_nil, or_false, forall_eq_or_imp, forall_eq] at f
          obtain ⟨p0, p1, p2, p3, p4, p5⟩ := f
          first | (go_simp; done) | (go_simp; with_reducible rfl)
        refine wpAnyH_take (i := 2) (v := ?_) rfl (by kernel_rfl) (by kernel_rfl) (by kernel_rfl) (fun _ _ _ h => h) (Yields.yieldsIf (Or.inl ⟨by kernel_rfl, ?_⟩)) hS ?_
        rotate_left
        · first | (intro w; go_simp; done) | (intro w; go_simp; with_reducible rfl)
        refine wpAnyH_take (i := 3) (v := ?_) rfl (by kernel_rfl) (by kernel_rfl) (by kernel_rfl) (fun _ _ _ h => h) (Or.inl ⟨by kernel_rfl, fun W hW => ?_⟩) hS ?_
        rotate_left
        · obtain ⟨a0, a1, a2, a3, a4, a5, a6, a7⟩ := HO.out W hW.bel
          have f := hW.at0
          simp only [List.mem_cons, List.not_mem_nil, or_false, forall_eq_or_imp, forall_eq] at f
          obtain ⟨p0, p1, p2, p3, p4, p5⟩ := f
          first | (go_simp; done) | (go_simp; with_reducible rfl)
        refine wpAnyH_take (i := 4) (v := ?_) rfl (by kernel_rfl) (by kernel_rfl) (by kernel_rfl) (fun _ _ _ h => h) (Yields.yieldsIf (Or.inl ⟨by kernel_rfl, ?_⟩)) hS ?_
        rotate_left
        · first | (intro w; go_simp; done) | (intro w; go_simp; with_reducible rfl)
        refine wpAnyH_take (i := 5) (v := ?_) rfl (by kernel_rfl) (by kernel_rfl) (by kernel_rfl) (fun _ _ _ h => h) (Or.inl ⟨by kernel_rfl, fun W hW => ?_⟩) hS ?_
        rotate_left
        · obtain ⟨a0, a1, a2, a3, a4, a5, a6, a7⟩ := HO.out W hW.bel
          have f := hW.at0
          simp only [List.mem_cons, List.not_mem_nil, or_false, forall_eq_or_imp, forall_eq] at f
          obtain ⟨p0, p1, p2, p3, p4, p5⟩ := f
          first | (go_simp; done) | (go_simp; with_reducible rfl)
        refine wpAnyH_take (i := 6) (v := ?_) rfl (by kernel_rfl) (by kernel_rfl) (by kernel_rfl) (fun _ _ _ h => h) (Yields.yieldsIf (Or.inl ⟨by kernel_rfl, ?_⟩)) hS ?_
        rotate_left
        · first | (intro w; go_simp; done) | (intro w; go_simp; with_reducible rfl)
        refine wpAnyH_take (i := 7) (v := ?_) rfl (by kernel_rfl) (by kernel_rfl) (by kernel_rfl) (fun _ _ _ h => h) (Or.inl ⟨by kernel_rfl, fun W hW => ?_⟩) hS ?_
        rotate_left
        · obtain ⟨a0, a1, a2, a3, a4, a5, a6, a7⟩ := HO.out W hW.bel
          have f := hW.at0
          simp only [List.mem_cons, List.not_mem_nil, or_false, forall_eq_or_imp, forall_eq] at f
          obtain ⟨p0, p1, p2, p3, p4, p5⟩ := f
          first | (go_simp; done) | (go_simp; with_reducible rfl)
        try go_simp
        refine wpAnyH_ready (rs := [8, 12]) (by kernel_rfl) (by simp) ?_
        refine AllReadyH.cons rfl (fun K hK => ?_) (AllReadyH.cons rfl (fun K hK => ?_) AllReadyH.nil)
        · have hcall := (IHR.out HZV.out) y (I.tv or' Ar nr cr) (E.tv ob Ab nb cb) wd (IR.out.up HXd.out.bel) (E.InP.up EY.out HXd.out.bel) FY.out OY.out
          unfold I.tv E.tv at hcall
          go_simp
          go_wp2_with fail
          refine hcall.mono ?_
          rintro e wdx ⟨v12, rfl, ht12, hbx⟩
          rw [HKR.out]
          obtain ⟨A12, n12, c12, rfl⟩ := E.InP.form ht12
          obtain ⟨z12, hz12⟩ : ∃ q, (growT r y).1.N = q := ⟨_, rfl⟩
          rw [hz12] at ht12 ⊢
          clear hz12
          have HXdx := Lib.hid ((HXd.out.next hbx).e ht12)
          have szwdx : wd.heap.size ≤ wdx.heap.size := hbx.size
          clear hcall ht12 hbx HXd
          unfold E.tv
          refine hK.out _ _ (HXdx.out.sub (by simp) (by simp) (by simp) (by simp)) (fun hS => ?_)
          clear hK K
          refine wpAnyH_take (i := 9) (v := ?_) rfl (by kernel_rfl) (by kernel_rfl) (by kernel_rfl) (fun _ _ _ h => h) (Yields.yieldsIf (Or.inl ⟨by kernel_rfl, ?_⟩)) hS ?_
          rotate_left
          · first | (intro w; go_simp; done) | (intro w; go_simp; with_reducible rfl)
          refine wpAnyH_take (i := 10) (v := ?_) rfl (by kernel_rfl) (by kernel_rfl) (by kernel_rfl) (fun _ _ _ h => h) (Yields.yieldsIf (Or.inl ⟨by kernel_rfl, ?_⟩)) hS ?_
          rotate_left
          · first | (intro w; go_simp; done) | (intro w; go_simp; with_reducible rfl)
          refine wpAnyH_take (i := 11) (v := ?_) rfl (by kernel_rfl) (by kernel_rfl) (by kernel_rfl) (fun _ _ _ h => h) (Yields.yieldsIf (Or.inl ⟨by kernel_rfl, ?_⟩)) hS ?_
          rotate_left
          · first | (intro w; go_simp; done) | (intro w; go_simp; with_reducible rfl)
          try go_simp
          refine wpAnyH_ready (rs := [12]) (by kernel_rfl) (by simp) ?_
          refine AllReadyH.cons rfl (fun K hK => ?_) AllReadyH.nil
          go_simp
          go_wp2
          have HXdxx' := HXdx.out.two (.int .i64 0) (.slice none 0 0) 27
          have HXdxx := Lib.hid HXdxx'
          clear HXdxx' HXdx
          simp only [List.nil_append, List.cons_append] at HXdxx
          refine hK.out _ _ (HXdxx.out.sub (by simp) (by simp) (by simp) (by simp)) (fun hS => ?_)
          clear hK K
          have szwdxx : wdx.heap.size < (wdx.alloc (.cells #[.int .i64 0, .slice none 0 0] 27)).heap.size := by simp
          generalize wdx.alloc (.cells #[.int .i64 0, .slice none 0 0] 27) = wdxx at *
          try go_simp
          refine wpAnyH_ready (rs := [13]) (by kernel_rfl) (by simp) ?_
          refine AllReadyH.cons rfl (fun K hK => ?_) AllReadyH.nil
          obtain ⟨y0, y1, q0, q1, q2, q3⟩ := HXdxx.out.facts2 (wdx.heap.size) (by simp)
          go_simp
          go_wp2
          have HXdxxx := Lib.hid ((HXdxx.out.sub (bs' := [(w.heap.size, 0, .bool false), (w.heap.size, 1, .slice (some ⟨bi, oi, none⟩) 2 ci), (w.heap.size + 1, 0, .int .i64 z), (w.heap.size + 1, 1, .slice (some ⟨b, off, none⟩) 2 c), (w1.heap.size, 0, .int .i64 z8), (w1.heap.size, 1, .slice A8 n8 c8)]) (rs' := [(w.heap.size + 1 + 1, 2), (w1.heap.size, 2), (w1.heap.size + 1, 2), (wdx.heap.size, 2)]) (is' := []) (es' := [((growT r y).1, E.tv z12 A12 n12 c12), (T8, E.tv z8 A8 n8 c8)]) (by simp) (by simp) (by simp) (by simp)).set2 (wdx.heap.size) (.int .i64 z12) (.slice A12 n12 c12) (by simp) (by simp only [List.mem_cons, List.not_mem_nil, or_false, forall_eq_or_imp, forall_eq]; omega) (by simp))
          clear q0 q1 q2 q3 HXdxx
          refine hK.out _ _ (HXdxxx.out.sub (by simp) (by simp) (by simp) (by simp)) (fun hS => ?_)
          clear hK K
          generalize (wdxx.setCell ⟨wdx.heap.size, 0, none⟩ (.int .i64 z12)).setCell ⟨wdx.heap.size, 1, none⟩ (.slice A12 n12 c12) = wdxxx at *
          refine wpAnyH_take (i := 14) (v := ?_) rfl (by kernel_rfl) (by kernel_rfl) (by kernel_rfl) (fun _ _ _ h => h) (Yields.yieldsIf (Or.inl ⟨by kernel_rfl, ?_⟩)) hS ?_
          rotate_left
          · first | (intro w; go_simp; done) | (intro w; go_simp; with_reducible rfl)
          try go_simp
          refine wpAnyH_done (by kernel_rfl) ?_ _
          go_wp2_with fail
          go_meet
          exact ⟨wdx.heap.size, z12, A12, n12, c12, rfl, rfl, by omega, HXdxxx.out.sub (by simp) (by simp) (by simp) (by simp)⟩
        · go_simp
          go_wp2
          have HXdx' := HXd.out.two (.int .i64 0) (.slice none 0 0) 27
          have HXdx := Lib.hid HXdx'
          clear HXdx' HXd
          simp only [List.nil_append, List.cons_append] at HXdx
          refine hK.out _ _ (HXdx.out.sub (by simp) (by simp) (by simp) (by simp)) (fun hS => ?_)
          clear hK K
          have szwdx : wd.heap.size < (wd.alloc (.cells #[.int .i64 0, .slice none 0 0] 27)).heap.size := by simp
          generalize wd.alloc (.cells #[.int .i64 0, .slice none 0 0] 27) = wdx at *
          try go_simp
          refine wpAnyH_ready (rs := [8]) (by kernel_rfl) (by simp) ?_
          refine AllReadyH.cons rfl (fun K hK => ?_) AllReadyH.nil
          have hcall := (IHR.out HZV.out) y (I.tv or' Ar nr cr) (E.tv ob Ab nb cb) wdx (IR.out.up HXdx.out.bel) (E.InP.up EY.out HXdx.out.bel) FY.out OY.out
          unfold I.tv E.tv at hcall
          go_simp
          go_wp2_with fail
          refine hcall.mono ?_
          rintro e wdxx ⟨v12, rfl, ht12, hbx⟩
          rw [HKR.out]
          obtain ⟨A12, n12, c12, rfl⟩ := E.InP.form ht12
          obtain ⟨z12, hz12⟩ : ∃ q, (growT r y).1.N = q := ⟨_, rfl⟩
          rw [hz12] at ht12 ⊢
          clear hz12
          have HXdxx := Lib.hid ((HXdx.out.next hbx).e ht12)
          have szwdxx : wdx.heap.size ≤ wdxx.heap.size := hbx.size
          clear hcall ht12 hbx HXdx
          unfold E.tv
          refine hK.out _ _ (HXdxx.out.sub (by simp) (by simp) (by simp) (by simp)) (fun hS => ?_)
          clear hK K
          refine wpAnyH_take (i := 9) (v := ?_) rfl (by kernel_rfl) (by kernel_rfl) (by kernel_rfl) (fun _ _ _ h => h) (Yields.yieldsIf (Or.inl ⟨by kernel_rfl, ?_⟩)) hS ?_
          rotate_left
          · first | (intro w; go_simp; done) | (intro w; go_simp; with_reducible rfl)
          refine wpAnyH_take (i := 10) (v := ?_) rfl (by kernel_rfl) (by kernel_rfl) (by kernel_rfl) (fun _ _ _ h => h) (Yields.yieldsIf (Or.inl ⟨by kernel_rfl, ?_⟩)) hS ?_
          rotate_left
          · first | (intro w; go_simp; done) | (intro w; go_simp; with_reducible rfl)
          refine wpAnyH_take (i := 11) (v := ?_) rfl (by kernel_rfl) (by kernel_rfl) (by kernel_rfl) (fun _ _ _ h => h) (Yields.yieldsIf (Or.inl ⟨by kernel_rfl, ?_⟩)) hS ?_
          rotate_left
          · first | (intro w; go_simp; done) | (intro w; go_simp; with_reducible rfl)
          try go_simp
          refine wpAnyH_ready (rs := [13]) (by kernel_rfl) (by simp) ?_
          refine AllReadyH.cons rfl (fun K hK => ?_) AllReadyH.nil
          obtain ⟨y0, y1, q0, q1, q2, q3⟩ := HXdxx.out.facts2 (wd.heap.size) (by simp)
          go_simp
          go_wp2
          have HXdxxx := Lib.hid ((HXdxx.out.sub (bs' := [(w.heap.size, 0, .bool false), (w.heap.size, 1, .slice (some ⟨bi, oi, none⟩) 2 ci), (w.heap.size + 1, 0, .int .i64 z), (w.heap.size + 1, 1, .slice (some ⟨b, off, none⟩) 2 c), (w1.heap.size, 0, .int .i64 z8), (w1.heap.size, 1, .slice A8 n8 c8)]) (rs' := [(w.heap.size + 1 + 1, 2), (w1.heap.size, 2), (w1.heap.size + 1, 2), (wd.heap.size, 2)]) (is' := []) (es' := [((growT r y).1, E.tv z12 A12 n12 c12), (T8, E.tv z8 A8 n8 c8)]) (by simp) (by simp) (by simp) (by simp)).set2 (wd.heap.size) (.int .i64 z12) (.slice A12 n12 c12) (by simp) (by simp only [List.mem_cons, List.not_mem_nil, or_false, forall_eq_or_imp, forall_eq]; omega) (by simp))
          clear q0 q1 q2 q3 HXdxx
          refine hK.out _ _ (HXdxxx.out.sub (by simp) (by simp) (by simp) (by simp)) (fun hS => ?_)
          clear hK K
          generalize (wdxx.setCell ⟨wd.heap.size, 0, none⟩ (.int .i64 z12)).setCell ⟨wd.heap.size, 1, none⟩ (.slice A12 n12 c12) = wdxxx at *
          refine wpAnyH_take (i := 14) (v := ?_) rfl (by kernel_rfl) (by kernel_rfl) (by kernel_rfl) (fun _ _ _ h => h) (Yields.yieldsIf (Or.inl ⟨by kernel_rfl, ?_⟩)) hS ?_
          rotate_left
          · first | (intro w; go_simp; done) | (intro w; go_simp; with_reducible rfl)
          try go_simp
          refine wpAnyH_done (by kernel_rfl) ?_ _
          go_wp2_with fail
          go_meet
          exact ⟨wd.heap.size, z12, A12, n12, c12, rfl, rfl, by omega, HXdxxx.out.sub (by simp) (by simp) (by simp) (by simp)⟩
      case rest =>
      obtain ⟨g12, z12, A12, n12, c12, rfl, rfl, hg12, hX⟩ := hcut
      have HXQ := Lib.hid hX
      clear hX
      go_upto_region 16 with fail
      refine wp_region_held_drew (S := fun W => SX w [(w.heap.size, 0, .bool false), (w.heap.size, 1, .slice (some ⟨bi, oi, none⟩) 2 ci), (w.heap.size + 1, 0, .int .i64 z), (w.heap.size + 1, 1, .slice (some ⟨b, off, none⟩) 2 c), (w1.heap.size, 0, .int .i64 z8), (w1.heap.size, 1, .slice A8 n8 c8), (g12, 0, .int .i64 z12), (g12, 1, .slice A12 n12 c12)] [(w.heap.size + 1 + 1, 2), (w1.heap.size, 2), (w1.heap.size + 1, 2)] [] [((growT r y).1, E.tv z12 A12 n12 c12), (T8, E.tv z8 A8 n8 c8)] W) (by kernel_rfl) (HXQ.out.drew) (fun hS => ?_)
      have HXd := Lib.hid (HXQ.out.drew)
      have sd2 : w1.heap.size + 2 ≤ wc.drew.heap.size := by have := (HXQ.out.box (w1.heap.size + 1, 2) (by simp)).1.lt; simp; omega
      clear HXQ
      generalize wc.drew = wd at *
      refine wpAnyH_take (i := 0) (v := ?_) rfl (by kernel_rfl) (by kernel_rfl) (by kernel_rfl) (fun _ _ _ h => h) (Yields.yieldsIf (Or.inl ⟨by kernel_rfl, ?_⟩)) hS ?_
      rotate_left
      · first | (intro w; go_simp; done) | (intro w; go_simp; with_reducible rfl)
      refine wpAnyH_take (i := 1) (v := ?_) rfl (by kernel_rfl) (by kernel_rfl) (by kernel_rfl) (fun _ _ _ h => h) (Or.inl ⟨by kernel_rfl, fun W hW => ?_⟩) hS ?_
      rotate_left
      · obtain ⟨a0, a1, a2, a3, a4, a5, a6, a7⟩ := HO.out W hW.bel
        have f := hW.at0
        simp only [List.mem_cons, List.not_mem_nil, or_false, forall_eq_or_imp, forall_eq] at f
        obtain ⟨p0, p1, p2, p3, p4, p5, p6, p7⟩ := f
        first | (go_simp; done) | (go_simp; with_reducible rfl)
      refine wpAnyH_take (i := 2) (v := ?_) rfl (by kernel_rfl) (by kernel_rfl) (by kernel_rfl) (fun _ _ _ h => h) (Yields.yieldsIf (Or.inl ⟨by kernel_rfl, ?_⟩)) hS ?_
      rotate_left
      · first | (intro w; go_simp; done) | (intro w; go_simp; with_reducible rfl)
      refine wpAnyH_take (i := 3) (v := ?_) rfl (by kernel_rfl) (by kernel_rfl) (by kernel_rfl) (fun _ _ _ h => h) (Or.inl ⟨by kernel_rfl, fun W hW => ?_⟩) hS ?_
      rotate_left
      · obtain ⟨a0, a1, a2, a3, a4, a5, a6, a7⟩ := HO.out W hW.bel
        have f := hW.at0
        simp only [List.mem_cons, List.not_mem_nil, or_false, forall_eq_or_imp, forall_eq] at f
        obtain ⟨p0, p1, p2, p3, p4, p5, p6, p7⟩ := f
        first | (go_simp; done) | (go_simp; with_reducible rfl)
      refine wpAnyH_take (i := 4) (v := ?_) rfl (by kernel_rfl) (by kernel_rfl) (by kernel_rfl) (fun _ _ _ h => h) (Yields.yieldsIf (Or.inl ⟨by kernel_rfl, ?_⟩)) hS ?_
      rotate_left
      · first | (intro w; go_simp; done) | (intro w; go_simp; with_reducible rfl)
      refine wpAnyH_take (i := 5) (v := ?_) rfl (by kernel_rfl) (by kernel_rfl) (by kernel_rfl) (fun _ _ _ h => h) (Or.inl ⟨by kernel_rfl, fun W hW => ?_⟩) hS ?_
      rotate_left
      · obtain ⟨a0, a1, a2, a3, a4, a5, a6, a7⟩ := HO.out W hW.bel
        have f := hW.at0
        simp only [List.mem_cons, List.not_mem_nil, or_false, forall_eq_or_imp, forall_eq] at f
        obtain ⟨p0, p1, p2, p3, p4, p5, p6, p7⟩ := f
        first | (go_simp; done) | (go_simp; with_reducible rfl)
      refine wpAnyH_take (i := 6) (v := ?_) rfl (by kernel_rfl) (by kernel_rfl) (by kernel_rfl) (fun _ _ _ h => h) (Or.inl ⟨by kernel_rfl, fun W hW => ?_⟩) hS ?_
      rotate_left
      · obtain ⟨a0, a1, a2, a3, a4, a5, a6, a7⟩ := HO.out W hW.bel
        have f := hW.at0
        simp only [List.mem_cons, List.not_mem_nil, or_false, forall_eq_or_imp, forall_eq] at f
        obtain ⟨p0, p1, p2, p3, p4, p5, p6, p7⟩ := f
        first | (go_simp; done) | (go_simp; with_reducible rfl)
      try go_simp
      refine wpAnyH_ready (rs := [7]) (by kernel_rfl) (by simp) ?_
      refine AllReadyH.cons rfl (fun K hK => ?_) AllReadyH.nil
      have hba : Below wd.heap.size wd (wd.alloc (.cells #[.int .i64 oa, .slice Aa na ca, .int .i64 z12, .slice A12 n12 c12] 27)) := (Below.refl _ _).alloc (Nat.le_refl _) _
      have hk1 : ET wd x (E.tv oa Aa na ca) := (E.InP.up EX.out HXd.out.bel)
      have hk2 : ET wd (growT r y).1 (E.tv z12 A12 n12 c12) := (HXd.out.eget (by simp))
      have hin : ET (wd.alloc (.cells #[.int .i64 oa, .slice Aa na ca, .int .i64 z12, .slice A12 n12 c12] 27)) (E.Tr.node z x (growT r y).1) (E.tv z (some ⟨wd.heap.size, 0, none⟩) 2 2) := by
        refine E.two_in (P := E.Lt wd.heap.size) (heap_alloc_new wd _) (E.InP.below hk1 hba) (E.InP.below hk2 hba) (fun b h => Nat.lt_of_lt_of_le h hba.size) ?_
        show _ < _; simp
      have HXdx := Lib.hid ((HXd.out.next hba).e hin)
      clear hba hk1 hk2 hin HXd
      go_simp
      go_wp2
      refine hK.out _ _ (HXdx.out.sub (by simp) (by simp) (by simp) (by simp)) (fun hS => ?_)
      clear hK K
      have szwdx : wd.heap.size < (wd.alloc (.cells #[.int .i64 oa, .slice Aa na ca, .int .i64 z12, .slice A12 n12 c12] 27)).heap.size := by simp
      generalize wd.alloc (.cells #[.int .i64 oa, .slice Aa na ca, .int .i64 z12, .slice A12 n12 c12] 27) = wdx at *
      refine wpAnyH_take (i := 8) (v := ?_) rfl (by kernel_rfl) (by kernel_rfl) (by kernel_rfl) (fun _ _ _ h => h) (Yields.yieldsIf (Or.inl ⟨by kernel_rfl, ?_⟩)) hS ?_
      rotate_left
      · first | (intro w; go_simp; done) | (intro w; go_simp; with_reducible rfl)
      try go_simp
      refine wpAnyH_ready (rs := [9]) (by kernel_rfl) (by simp) ?_
      refine AllReadyH.cons rfl (fun K hK => ?_) AllReadyH.nil
      obtain ⟨y0, y1, q0, q1, q2, q3⟩ := HXdx.out.facts2 (w1.heap.size + 1) (by simp)
      go_simp
      go_wp2
      have HXdxx := Lib.hid ((HXdx.out.sub (bs' := [(w.heap.size, 0, .bool false), (w.heap.size, 1, .slice (some ⟨bi, oi, none⟩) 2 ci), (w.heap.size + 1, 0, .int .i64 z), (w.heap.size + 1, 1, .slice (some ⟨b, off, none⟩) 2 c), (w1.heap.size, 0, .int .i64 z8), (w1.heap.size, 1, .slice A8 n8 c8), (g12, 0, .int .i64 z12), (g12, 1, .slice A12 n12 c12)]) (rs' := [(w.heap.size + 1 + 1, 2), (w1.heap.size, 2), (w1.heap.size + 1, 2)]) (is' := []) (es' := [((E.Tr.node z x (growT r y).1), E.tv z (some ⟨wd.heap.size, 0, none⟩) 2 2), ((growT r y).1, E.tv z12 A12 n12 c12), (T8, E.tv z8 A8 n8 c8)]) (by simp) (by simp) (by simp) (by simp)).set2 (w1.heap.size + 1) (.int .i64 z) (.slice (some ⟨wd.heap.size, 0, none⟩) 2 2) (by simp) (by simp only [List.mem_cons, List.not_mem_nil, or_false, forall_eq_or_imp, forall_eq]; omega) (by simp))
      clear q0 q1 q2 q3 HXdx
      refine hK.out _ _ (HXdxx.out.sub (by simp) (by simp) (by simp) (by simp)) (fun hS => ?_)
      clear hK K
      generalize (wdx.setCell ⟨w1.heap.size + 1, 0, none⟩ (.int .i64 z)).setCell ⟨w1.heap.size + 1, 1, none⟩ (.slice (some ⟨wd.heap.size, 0, none⟩) 2 2) = wdxx at *
      try go_simp
      refine wpAnyH_done (by kernel_rfl) ?_ _
      go_wp2_with fail
      go_meet
      exact ⟨KR + 1, (E.Tr.node z x (growT r y).1), z, some ⟨wd.heap.size, 0, none⟩, 2, 2, rfl, HXdxx.out.sub (by simp) (by simp) (by simp) (by simp), Lib.hid ⟨(fun h => absurd (HZV.out.symm.trans h) (by decide)), fun _ => ⟨rfl, rfl⟩⟩⟩
  case rest =>
  obtain ⟨Y, T9, z9, A9, n9, c9, rfl, hX, HCR⟩ := hcut
  have HXR := Lib.hid hX
  clear hX HXN HZV sw5
  have HE := Lib.hid (HEND.out X Y T8 T9 HCL.out HCR.out)
  clear HEND HCL HCR
  by_cases hxy : X < Y
  · obtain ⟨co, hin, hco⟩ := HE.out.1 (by omega)
    have HIN := Lib.hid hin
    have HCO := Lib.hid hco
    clear hin hco
    have f := HXR.out.at0
    simp only [List.mem_cons, List.not_mem_nil, or_false, forall_eq_or_imp, forall_eq] at f
    obtain ⟨p0, p1, p2, p3⟩ := f
    obtain ⟨y0, y1, q0, q1, q2, q3⟩ := HXR.out.facts2 (w.heap.size + 1 + 1) (by simp)
    have HX9 := Lib.hid ((HXR.out.sub (bs' := []) (rs' := [(w.heap.size + 1 + 1, 2)]) (is' := []) (es' := [(T8, E.tv z8 A8 n8 c8)]) (by simp) (by simp) (by simp) (by simp)).set2 (w.heap.size + 1 + 1) (.int .i64 z8) (.slice A8 n8 c8) (by simp) (by simp) (by simp))
    clear HXR
    go_wp2
    have f := HX9.out.at0
    simp only [List.mem_cons, List.not_mem_nil, or_false, forall_eq_or_imp, forall_eq] at f
    obtain ⟨f0, f1⟩ := f
    refine bodyPost_ret (v := .tuple #[E.tv z8 A8 n8 c8, .int .i64 X]) (by simp [results, Tryz.f42, go_sem, E.tv, f0, f1]) rfl ?_
    rw [HIN.out]
    exact ⟨_, by rw [HCO.out], HX9.out.eget (by simp), HX9.out.bel⟩
  · obtain ⟨co, hin, hco⟩ := HE.out.2 (by omega)
    have HIN := Lib.hid hin
    have HCO := Lib.hid hco
    clear hin hco
    have f := HXR.out.at0
    simp only [List.mem_cons, List.not_mem_nil, or_false, forall_eq_or_imp, forall_eq] at f
    obtain ⟨p0, p1, p2, p3⟩ := f
    obtain ⟨y0, y1, q0, q1, q2, q3⟩ := HXR.out.facts2 (w.heap.size + 1 + 1) (by simp)
    have HX9 := Lib.hid ((HXR.out.sub (bs' := []) (rs' := [(w.heap.size + 1 + 1, 2)]) (is' := []) (es' := [(T9, E.tv z9 A9 n9 c9)]) (by simp) (by simp) (by simp) (by simp)).set2 (w.heap.size + 1 + 1) (.int .i64 z9) (.slice A9 n9 c9) (by simp) (by simp) (by simp))
    clear HXR
    go_wp2
    have f := HX9.out.at0
    simp only [List.mem_cons, List.not_mem_nil, or_false, forall_eq_or_imp, forall_eq] at f
    obtain ⟨f0, f1⟩ := f
    refine bodyPost_ret (v := .tuple #[E.tv z9 A9 n9 c9, .int .i64 Y]) (by simp [results, Tryz.f42, go_sem, E.tv, f0, f1]) rfl ?_
    rw [HIN.out]
    exact ⟨_, by rw [HCO.out], HX9.out.eget (by simp), HX9.out.bel⟩
end Go.Proofs.YtoaglkjpjolacaaGreatDoor.S
namespace Go.Proofs.YtoaglkjpjolacaaGreatDoor.S
open Go.RowKit
theorem flat_zero (j : I.Tr) : flat j (.leaf 0) = true := by
  cases j with
  | leaf o => cases o <;> rfl
  | node x y => rfl
theorem okN_zero : okN (.leaf 0) := by simp [okN, E.Tr.okc, E.mc]
set_option maxRecDepth 100000 in
set_option maxHeartbeats 6400000 in
theorem rgrow_nleaf {l r : I.Tr} {bi oi ci d : Nat} {z : Int} {B : Option Addr} {ol or' : Bool} {Al Ar : Option Addr} {nl cl nr cr : Nat} (w : World) (ihl : zero l = false → RGo l) (ihr : zero r = false → RGo r)
    (hi : IT w (.node l r) (I.tv false (some ⟨bi, oi, none⟩) 2 ci))
    (i2 : w.cell? ⟨bi, oi, none⟩ = some (.bool ol)) (i3 : w.cell? ⟨bi, oi + 1, none⟩ = some (.slice Al nl cl)) (i4 : w.cell? ⟨bi, oi + 2, none⟩ = some (.bool or')) (i5 : w.cell? ⟨bi, oi + 3, none⟩ = some (.slice Ar nr cr))
    (il : IT w l (I.tv ol Al nl cl)) (ir : IT w r (I.tv or' Ar nr cr)) (hz : ¬ (zero l = true ∧ zero r = true)) (hdl : l.depth ≤ 900) (hdr : r.depth ≤ 900) :
    Calls Tryz.prog 42 #[I.tv false (some ⟨bi, oi, none⟩) 2 ci, E.tv z B 0 d] w (RG (growT (.node l r) (.leaf z)) w) := by
  have HN : Hid (∀ W, Below w.heap.size w W → Calls Tryz.prog 42 #[I.tv false (some ⟨bi, oi, none⟩) 2 ci, E.tv z (some ⟨W.heap.size, 0, none⟩) 2 2] (W.alloc (.cells #[.int .i64 0, .slice none 0 0, .int .i64 0, .slice none 0 0] 27)) (RG (innF l r (.node z (.leaf 0) (.leaf 0))) (W.alloc (.cells #[.int .i64 0, .slice none 0 0, .int .i64 0, .slice none 0 0] 27)))) := Lib.hid (fun W hW => by
    have hb : Below w.heap.size w (W.alloc (.cells #[.int .i64 0, .slice none 0 0, .int .i64 0, .slice none 0 0] 27)) := hW.alloc hW.size _
    have li : bi < w.heap.size := World.block_lt_of_cell? w _ i2
    exact rgrow_node (oa := 0) (ob := 0) (Aa := none) (Ab := none) (na := 0) (ca := 0) (nb := 0) (cb := 0) (x := .leaf 0) (y := .leaf 0) (b := W.heap.size) (off := 0) (c := 2) _ ihl ihr (I.InT.up hi hb) ((hb.cell (p := ⟨bi, oi, none⟩) li).trans i2) ((hb.cell (p := ⟨bi, oi + 1, none⟩) li).trans i3) ((hb.cell (p := ⟨bi, oi + 2, none⟩) li).trans i4) ((hb.cell (p := ⟨bi, oi + 3, none⟩) li).trans i5) (I.InT.up il hb) (I.InT.up ir hb)
      (by simp [go_sem]) (by simp [go_sem]) (by simp [go_sem]) (by simp [go_sem]) ⟨none, 0, rfl⟩ ⟨none, 0, rfl⟩ (flat_zero l) (flat_zero r) okN_zero okN_zero hz hdl hdr)
  have hgc := grow_cost _ (.node l r) (.leaf z) (Nat.le_refl _)
  rw [grow_leaf] at hgc ⊢
  obtain ⟨⟨T, c1, c2⟩, hR⟩ : ∃ R, innF l r (.node z (.leaf 0) (.leaf 0)) = R := ⟨_, rfl⟩
  rw [hR] at hgc ⊢
  simp only [I.Tr.depth] at hgc
  obtain ⟨K, hK⟩ : ∃ K : Int, 1000 * (c1 : Int) + (c2 : Int) = K := ⟨_, rfl⟩
  have hk0 : 0 ≤ K := by omega
  have hk1 : K ≤ 10000000 := by omega
  have hw : IntKind.i64.wrap (K + 1000) = K + 1000 := E.wrap_id (by omega) (by omega)
  have HK : Hid (1000 * ((c1 + 1 : Nat) : Int) + (c2 : Int) = K + 1000) := Lib.hid (by omega)
  have HN2 : Hid (∀ W, Below w.heap.size w W → Calls Tryz.prog 42 #[I.tv false (some ⟨bi, oi, none⟩) 2 ci, E.tv z (some ⟨W.heap.size, 0, none⟩) 2 2] (W.alloc (.cells #[.int .i64 0, .slice none 0 0, .int .i64 0, .slice none 0 0] 27)) fun e w' => ∃ v, e = .returned (.tuple #[v, .int .i64 K]) ∧ ET w' T v ∧ Below (W.alloc (.cells #[.int .i64 0, .slice none 0 0, .int .i64 0, .slice none 0 0] 27)).heap.size (W.alloc (.cells #[.int .i64 0, .slice none 0 0, .int .i64 0, .slice none 0 0] 27)) w') := Lib.hid (fun W hW => by
    have := HN.out W hW
    rw [hR] at this
    refine this.mono fun e w' ⟨v, h1, h2, h3⟩ => ⟨v, by rw [h1, ← hK], h2, h3⟩)
  have HI := Lib.hid hi
  have HX0 := Lib.hid ((((SX.begin w).two (.bool false) (.slice (some ⟨bi, oi, none⟩) 2 ci) 24).two (.int .i64 z) (.slice B 0 d) 27).two (.int .i64 0) (.slice none 0 0) 27)
  simp only [List.nil_append, List.cons_append, World.size_alloc] at HX0
  clear HN hgc hR hK hi i2 i3 i4 i5 il ir hz hdl hdr ihl ihr
  have hc := rone_any (.node l r) (I.tv false (some ⟨bi, oi, none⟩) 2 ci) _ (HI.out.up HX0.out.bel)
  rw [show one (.node l r) = false from rfl] at hc
  unfold I.tv at hc ⊢
  unfold E.tv
  go_enter Tryz.func42, Tryz.ntmps42
  go_wp2_with fail
  refine hc.mono ?_
  rintro e w1 ⟨rfl, hb1⟩
  have s1 : w.heap.size + 3 ≤ w1.heap.size := by
    have h1 := hb1.size
    have h2 := (HX0.out.box (w.heap.size + 1 + 1, 2) (by simp)).1.lt
    omega
  have HX1 := Lib.hid (HX0.out.next hb1)
  clear hc hb1 HX0
  have f := HX1.out.at0
  simp only [List.mem_cons, List.not_mem_nil, or_false, forall_eq_or_imp, forall_eq] at f
  obtain ⟨p0, p1, p2, p3, p4, p5⟩ := f
  have hc := HN2.out w1 HX1.out.bel
  have hba : Below w1.heap.size w1 (w1.alloc (.cells #[.int .i64 0, .slice none 0 0, .int .i64 0, .slice none 0 0] 27)) := (Below.refl _ _).alloc (Nat.le_refl _) _
  have HX2 := Lib.hid (HX1.out.next hba)
  unfold I.tv E.tv at hc
  clear HN2 hba HX1
  go_wp2_with fail
  refine hc.mono ?_
  rintro e w4 ⟨v4, rfl, ht4, hb4⟩
  obtain ⟨A4, n4, c4, rfl⟩ := E.InP.form ht4
  obtain ⟨z4, hz4⟩ : ∃ q, T.N = q := ⟨_, rfl⟩
  rw [hz4] at ht4 ⊢
  have HX4 := Lib.hid (((HX2.out.next hb4).e ht4).two (.int .i64 z4) (.slice A4 n4 c4) 27)
  simp only [List.nil_append, List.cons_append] at HX4
  have sz4 : w.heap.size + 3 ≤ w4.heap.size := by have := hb4.size; simp only [World.size_alloc] at this; omega
  clear hc hb4 ht4 hz4 HX2 p0 p1 p2 p3 p4 p5
  unfold E.tv
  go_upto_region 5 with fail
  generalize w4.alloc (.cells #[.int .i64 z4, .slice A4 n4 c4] 27) = w5 at *
  have f := HX4.out.at0
  simp only [List.mem_cons, List.not_mem_nil, or_false, forall_eq_or_imp, forall_eq] at f
  obtain ⟨p0, p1, p2, p3, p4, p5, p6, p7⟩ := f
  obtain ⟨y0, y1, q0, q1, q2, q3⟩ := HX4.out.facts2 (w.heap.size + 1 + 1) (by simp)
  have HX9 := Lib.hid ((HX4.out.sub (bs' := []) (rs' := [(w.heap.size + 1 + 1, 2)]) (is' := []) (es' := [(T, E.tv z4 A4 n4 c4)]) (by simp) (by simp) (by simp) (by simp)).set2 (w.heap.size + 1 + 1) (.int .i64 z4) (.slice A4 n4 c4) (by simp) (by simp) (by simp))
  clear HX4
  go_wp2
  have f := HX9.out.at0
  simp only [List.mem_cons, List.not_mem_nil, or_false, forall_eq_or_imp, forall_eq] at f
  obtain ⟨f0, f1⟩ := f
  refine bodyPost_ret (v := .tuple #[E.tv z4 A4 n4 c4, .int .i64 (K + 1000)]) (by simp [results, Tryz.f42, go_sem, E.tv, f0, f1]) rfl ?_
  exact ⟨_, by rw [HK.out], HX9.out.eget (by simp), HX9.out.bel⟩
theorem rgrow_any : ∀ i : I.Tr, i.depth ≤ 900 → Nz i → zero i = false → RGo i
  | .leaf false, _, _, h => by cases h
  | .leaf true, _, _, _ => fun e u v w hi he hf ho => by
    obtain ⟨A, c, rfl⟩ := hi
    cases e with
    | leaf n =>
      obtain ⟨B, d, rfl⟩ := he
      have := okN_N ho
      rw [growT]
      exact rgrow_one w this.1 this.2
    | node n a b => cases hf
  | .node l r, hd, hz, _ => fun e u v w hi he hf ho => by
    simp only [I.Tr.depth] at hd
    obtain ⟨z1, z2, z3⟩ := hz
    have ihl : zero l = false → RGo l := rgrow_any l (by omega) z1
    have ihr : zero r = false → RGo r := rgrow_any r (by omega) z2
    have hi' := hi
    obtain ⟨bi, oi, ci, rfl, hbi, ⟨ol, Al, nl, cl, i2, i3, il⟩, ⟨or', Ar, nr, cr, i4, i5, ir⟩⟩ := hi'
    cases e with
    | leaf n =>
      obtain ⟨B, d, rfl⟩ := he
      exact rgrow_nleaf w ihl ihr hi i2 i3 i4 i5 il ir z3 (by omega) (by omega)
    | node z x y =>
      obtain ⟨b, off, c, rfl, hb, ⟨oa, Aa, na, ca, e0, e1, ex⟩, ⟨ob, Ab, nb, cb, e2, e3, ey⟩⟩ := he
      simp only [flat, Bool.and_eq_true] at hf
      obtain ⟨o1, o2, _, _⟩ := okN_kids ho
      rw [grow_node]
      exact rgrow_node w ihl ihr hi i2 i3 i4 i5 il ir e0 e1 e2 e3 ex ey hf.1 hf.2 o1 o2 z3 (by omega) (by omega)
end Go.Proofs.YtoaglkjpjolacaaGreatDoor.S
namespace Go.Proofs.YtoaglkjpjolacaaGreatDoor.S
open Go.RowKit
set_option linter.unusedVariables false
/-- The fill is the tree that there was, just if it denotes the same. -/
theorem fill_same {i : I.Tr} {x : E.Tr} (hx : E.Nf x) : E.eqT (fillT i x).norm x = (E.leqT (fillT i x) x 0 0 && E.leqT x (fillT i x) 0 0) := by
  rw [Bool.eq_iff_iff, E.eqT_iff, Bool.and_eq_true, E.leqT_iff, E.leqT_iff]
  constructor
  · intro h
    have hd : ∀ f, E.den (fillT i x) f = E.den x f := fun f => by rw [← E.den_norm, h]
    exact ⟨fun f => by rw [hd f]; omega, fun f => by rw [hd f]; omega⟩
  · intro h
    exact E.Nf.unique (E.nf_norm _) hx fun f => by have := h.1 f; have := h.2 f; rw [E.den_norm]; omega
set_option maxRecDepth 100000 in
set_option maxHeartbeats 12800000 in
theorem revent_any {w : World} {S : Option I.Tr} {T : Option E.Tr} {v : Value} (h : SArg w S T v) : Calls Tryz.prog 14 #[v] w (AnsS (eventR S T) w) := by
  have HH := Lib.hid h
  obtain ⟨o, A, n, c, z, A', n', c', rfl, h1, h2⟩ := h
  have HX0 := Lib.hid (((SX.begin w).four o (.slice A n c) z (.slice A' n' c') 29).four false (.slice none 0 0) 0 (.slice none 0 0) 29)
  simp only [List.nil_append, List.cons_append, World.size_alloc] at HX0
  have H1 := Lib.hid h1
  have H2 := Lib.hid h2
  have hc := rright_any (HH.out.up HX0.out.bel)
  obtain ⟨a, ha⟩ : ∃ a, (S.isSome && T.isSome) = a := ⟨_, rfl⟩
  rw [ha] at hc
  clear h1 h2
  unfold sv at hc ⊢
  go_enter Tryz.func14, Tryz.ntmps14
  go_wp2_with fail
  refine hc.mono ?_
  rintro e w1 ⟨rfl, hb1⟩
  have HX1 := Lib.hid (HX0.out.next hb1)
  clear hc hb1 HX0
  cases a with
  | false =>
    have HPN := Lib.hid (event_none ha)
    clear ha
    obtain ⟨y0, y1, y2, y3, ⟨q0, q1, q2, q3⟩, r0, r1, r2, r3⟩ := HX1.out.facts4 (w.heap.size + 1) (by simp)
    have HX9 := Lib.hid ((HX1.out.sub0 (bs' := []) (rs' := [(w.heap.size + 1, 4)]) (by simp) (by simp)).set4 (w.heap.size + 1) false (.slice none 0 0) 0 (.slice none 0 0) (by simp) (by simp) (by simp))
    clear HX1
    go_wp2
    have f := HX9.out.at0
    simp only [List.mem_cons, List.not_mem_nil, or_false, forall_eq_or_imp, forall_eq] at f
    obtain ⟨f0, f1, f2, f3⟩ := f
    refine bodyPost_ret (v := .tuple #[sv false none 0 0 0 none 0 0, .int .i64 2]) (by simp [results, Tryz.f14, go_sem, sv, f0, f1, f2, f3]) rfl ?_
    rw [HPN.out]
    exact ⟨_, rfl, SIn.zero _, HX9.out.bel⟩
  | true =>
    obtain ⟨i, x, rfl, rfl⟩ := both_some ha
    have hoki := H1.out.inT.2
    have hokx := H2.out.inT.2
    have hdn : i.norm.depth ≤ 900 := by have := (I.fit_eq (I.fit_norm (I.fit_of hoki.1 hoki.2))).2.1; omega
    have hnz : Nz i.norm := nz_norm _ (I.norm_norm i)
    have hoxn : E.okT x.norm = true := E.okT_norm hokx
    have hon : okN x.norm := ((E.okT_iff _).1 hoxn).2.1
    have hof : E.okT (fillT i.norm x.norm) = true := fill_ok _ hoxn
    have HDN := Lib.hid hdn
    have HNZ := Lib.hid hnz
    have HOX := Lib.hid hoxn
    have HON := Lib.hid hon
    have HOF := Lib.hid hof
    clear ha hoki hokx hdn hnz hoxn hon hof
    have f := HX1.out.at0
    simp only [List.mem_cons, List.not_mem_nil, or_false, forall_eq_or_imp, forall_eq] at f
    obtain ⟨p0, p1, p2, p3, p4, p5, p6, p7⟩ := f
    have hc := rnorm_any (HH.out.up HX1.out.bel)
    unfold sv at hc
    go_wp2_with fail
    refine hc.mono ?_
    rintro e w2 ⟨u2, rfl, hu2, hb2⟩
    obtain ⟨o1, A1, n1, c1, A3, n3, c3, rfl, hti, htx⟩ := hu2
    obtain ⟨z3, hz3⟩ : ∃ q, x.norm.N = q := ⟨_, rfl⟩
    rw [hz3] at htx ⊢
    have sz2 : w.heap.size + 2 ≤ w2.heap.size := by
      have h1 := hb2.size
      have h2 := (HX1.out.box (w.heap.size + 1, 4) (by simp)).1.lt
      omega
    have HX2 := Lib.hid ((((HX1.out.next hb2).i hti).e htx).four o1 (.slice A1 n1 c1) z3 (.slice A3 n3 c3) 29)
    simp only [List.nil_append, List.cons_append] at HX2
    clear hc hb2 hti htx hz3 HX1
    clear p0 p1 p2 p3 p4 p5 p6 p7
    unfold sv
    go_upto_region 5 with fail
    have sz3 : w2.heap.size < (w2.alloc (.cells #[.bool o1, .slice A1 n1 c1, .int .i64 z3, .slice A3 n3 c3] 29)).heap.size := by simp
    generalize w2.alloc (.cells #[.bool o1, .slice A1 n1 c1, .int .i64 z3, .slice A3 n3 c3] 29) = w3 at *
    have HX3 := Lib.hid (HX2.out.sub (bs' := [(w2.heap.size, 0, .bool o1), (w2.heap.size, 1, .slice A1 n1 c1), (w2.heap.size, 2, .int .i64 z3), (w2.heap.size, 3, .slice A3 n3 c3)]) (rs' := [(w.heap.size + 1, 4)]) (is' := [(i.norm, I.tv o1 A1 n1 c1)]) (es' := [(x.norm, E.tv z3 A3 n3 c3)]) (by simp) (by simp) (by simp) (by simp))
    clear HX2
    have f := HX3.out.at0
    simp only [List.mem_cons, List.not_mem_nil, or_false, forall_eq_or_imp, forall_eq] at f
    obtain ⟨p0, p1, p2, p3⟩ := f
    have hc := rnone_any i.norm (I.tv o1 A1 n1 c1) w3 (HX3.out.iget (by simp))
    unfold I.tv at hc
    obtain ⟨zz, hzz⟩ : ∃ zz, zero i.norm = zz := ⟨_, rfl⟩
    rw [hzz] at hc
    go_wp2_with fail
    refine hc.mono ?_
    rintro e w4 ⟨rfl, hb4⟩
    have sz4 : w2.heap.size < w4.heap.size := by have := hb4.size; omega
    have HX4 := Lib.hid (HX3.out.next hb4)
    clear hc hb4 HX3 sz3
    clear p0 p1 p2 p3
    cases zz with
    | true =>
      have HPN : Hid (eventR (some i) (some x) = (zeroS, 60)) := Lib.hid (by simp [eventR, hzz])
      clear hzz
      obtain ⟨y0, y1, y2, y3, ⟨q0, q1, q2, q3⟩, r0, r1, r2, r3⟩ := HX4.out.facts4 (w.heap.size + 1) (by simp)
      have HX9 := Lib.hid ((HX4.out.sub0 (bs' := []) (rs' := [(w.heap.size + 1, 4)]) (by simp) (by simp)).set4 (w.heap.size + 1) false (.slice none 0 0) 0 (.slice none 0 0) (by simp) (by simp) (by simp))
      clear HX4
      go_wp2
      have f := HX9.out.at0
      simp only [List.mem_cons, List.not_mem_nil, or_false, forall_eq_or_imp, forall_eq] at f
      obtain ⟨f0, f1, f2, f3⟩ := f
      refine bodyPost_ret (v := .tuple #[sv false none 0 0 0 none 0 0, .int .i64 60]) (by simp [results, Tryz.f14, go_sem, sv, f0, f1, f2, f3]) rfl ?_
      rw [HPN.out]
      exact ⟨_, rfl, SIn.zero _, HX9.out.bel⟩
    | false =>
      have HZZ := Lib.hid hzz
      clear hzz
      have f := HX4.out.at0
      simp only [List.mem_cons, List.not_mem_nil, or_false, forall_eq_or_imp, forall_eq] at f
      obtain ⟨p0, p1, p2, p3⟩ := f
      have hc := rfill_any i.norm x.norm (I.tv o1 A1 n1 c1) (E.tv z3 A3 n3 c3) w4 (HX4.out.iget (by simp)) (HX4.out.eget (by simp)) (E.nf_norm x) HOX.out
      unfold I.tv E.tv at hc
      go_wp2_with fail
      refine hc.mono ?_
      rintro e w5 ⟨v5, rfl, ht5, hb5⟩
      obtain ⟨A5, n5, c5, rfl⟩ := E.InP.form ht5
      obtain ⟨z5, hz5⟩ : ∃ q, (fillT i.norm x.norm).norm.N = q := ⟨_, rfl⟩
      rw [hz5] at ht5 ⊢
      have sz5 : w2.heap.size < w5.heap.size := by have := hb5.size; omega
      have HX5 := Lib.hid (((HX4.out.next hb5).e ht5).two (.int .i64 z5) (.slice A5 n5 c5) 27)
      simp only [List.nil_append, List.cons_append] at HX5
      clear hc hb5 ht5 hz5 HX4
      clear p0 p1 p2 p3
      unfold E.tv
      go_upto_region 8 with fail
      have sz6 : w5.heap.size < (w5.alloc (.cells #[.int .i64 z5, .slice A5 n5 c5] 27)).heap.size := by simp
      generalize w5.alloc (.cells #[.int .i64 z5, .slice A5 n5 c5] 27) = w6 at *
      have f := HX5.out.at0
      simp only [List.mem_cons, List.not_mem_nil, or_false, forall_eq_or_imp, forall_eq] at f
      obtain ⟨p0, p1, p2, p3, p4, p5⟩ := f
      have hc := E.equal_any (fillT i.norm x.norm).norm x.norm _ _ (E.tv z5 A5 n5 c5) (E.tv z3 A3 n3 c3) w6 (HX5.out.eget (by simp)) (HX5.out.eget (by simp))
      rw [fill_same (E.nf_norm x)] at hc
      unfold E.tv at hc
      obtain ⟨sm, hsm⟩ : ∃ q, (E.leqT (fillT i.norm x.norm) x.norm 0 0 && E.leqT x.norm (fillT i.norm x.norm) 0 0) = q := ⟨_, rfl⟩
      rw [hsm] at hc
      have HSM := Lib.hid hsm
      clear hsm
      go_wp2_with fail
      refine hc.mono ?_
      rintro e w8 ⟨rfl, hb8⟩
      have HX8 := Lib.hid (HX5.out.next hb8)
      clear hc hb8 HX5
      clear p0 p1 p2 p3 p4 p5
      go_upto_if 28 with fail
      go_cut [] (fun wx => ∃ (T9 : E.Tr) (z9 : Int) (A9 : Option Addr) (n9 c9 : Nat), SX w [(w2.heap.size, 0, .bool o1), (w2.heap.size, 1, .slice A1 n1 c1), (w2.heap.size, 2, .int .i64 z3), (w2.heap.size, 3, .slice A3 n3 c3), (w5.heap.size, 0, .int .i64 z9), (w5.heap.size, 1, .slice A9 n9 c9)] [(w.heap.size + 1, 4)] [(i.norm, I.tv o1 A1 n1 c1)] [(T9, E.tv z9 A9 n9 c9)] wx ∧ Hid (T9.norm = (afterT i.norm x.norm).norm ∧ E.okT T9 = E.okT (afterT i.norm x.norm)))
      case first =>
        cases sm with
        | false =>
          have hat : afterT i.norm x.norm = fillT i.norm x.norm := by
            unfold afterT; rw [if_neg (by rw [HSM.out]; decide)]
          go_wp2_with fail
          go_meet
          exact ⟨(fillT i.norm x.norm).norm, z5, A5, n5, c5, HX8.out.sub (by simp) (by simp) (by simp) (by simp), Lib.hid ⟨by rw [hat, E.norm_norm], by rw [hat, HOF.out, E.okT_norm HOF.out]⟩⟩
        | true =>
          have hat : afterT i.norm x.norm = (growT i.norm x.norm).1 := by
            unfold afterT; rw [if_pos HSM.out]
          have HAT := Lib.hid hat
          have hfl : flat i.norm x.norm = true := flat_of_fill _ _ (E.nf_norm x) (fun f => by
            have h := HSM.out
            rw [Bool.and_eq_true, E.leqT_iff, E.leqT_iff] at h
            have := h.1 f; have := h.2 f; omega)
          clear hat
          have f := HX8.out.at0
          simp only [List.mem_cons, List.not_mem_nil, or_false, forall_eq_or_imp, forall_eq] at f
          obtain ⟨p0, p1, p2, p3, p4, p5⟩ := f
          have hc := rgrow_any i.norm HDN.out HNZ.out HZZ.out x.norm (I.tv o1 A1 n1 c1) (E.tv z3 A3 n3 c3) w8 (HX8.out.iget (by simp)) (HX8.out.eget (by simp)) hfl HON.out
          obtain ⟨K, hK⟩ : ∃ K : Int, 1000 * ((growT i.norm x.norm).2.1 : Int) + ((growT i.norm x.norm).2.2 : Int) = K := ⟨_, rfl⟩
          unfold RG at hc
          rw [hK] at hc
          unfold I.tv E.tv at hc
          clear hfl hK
          go_wp2_with fail
          refine hc.mono ?_
          rintro e w9 ⟨v9, rfl, ht9, hb9⟩
          obtain ⟨A9, n9, c9, rfl⟩ := E.InP.form ht9
          obtain ⟨z9, hz9⟩ : ∃ q, (growT i.norm x.norm).1.N = q := ⟨_, rfl⟩
          rw [hz9] at ht9 ⊢
          have HX9 := Lib.hid ((HX8.out.next hb9).e ht9)
          clear hc hb9 ht9 hz9 HX8
          clear p0 p1 p2 p3 p4 p5
          unfold E.tv
          have f := HX9.out.at0
          simp only [List.mem_cons, List.not_mem_nil, or_false, forall_eq_or_imp, forall_eq] at f
          obtain ⟨p0, p1, p2, p3, p4, p5⟩ := f
          obtain ⟨y0, y1, q0, q1, q2, q3⟩ := HX9.out.facts2 w5.heap.size (by simp)
          have HX10 := Lib.hid ((HX9.out.sub (bs' := [(w2.heap.size, 0, .bool o1), (w2.heap.size, 1, .slice A1 n1 c1), (w2.heap.size, 2, .int .i64 z3), (w2.heap.size, 3, .slice A3 n3 c3)]) (rs' := [(w.heap.size + 1, 4), (w5.heap.size, 2)]) (is' := [(i.norm, I.tv o1 A1 n1 c1)]) (es' := [((growT i.norm x.norm).1, E.tv z9 A9 n9 c9)]) (by simp) (by simp) (by simp) (by simp)).set2 w5.heap.size (.int .i64 z9) (.slice A9 n9 c9) (by simp) (by simp only [List.mem_cons, List.not_mem_nil, or_false, forall_eq_or_imp, forall_eq]; omega) (by simp; try omega))
          clear HX9
          go_wp2_with fail
          go_meet
          exact ⟨(growT i.norm x.norm).1, z9, A9, n9, c9, HX10.out.sub (by simp) (by simp) (by simp) (by simp), Lib.hid ⟨by rw [HAT.out], by rw [HAT.out]⟩⟩
      case rest =>
      obtain ⟨T9, z9, A9, n9, c9, hX, HT9⟩ := hcut
      have HX9 := Lib.hid hX
      clear hX HX8
      have f := HX9.out.at0
      simp only [List.mem_cons, List.not_mem_nil, or_false, forall_eq_or_imp, forall_eq] at f
      obtain ⟨p0, p1, p2, p3, p4, p5⟩ := f
      have hc := E.rnorm_arg (E.arg_of (HX9.out.eget (t := T9) (v := E.tv z9 A9 n9 c9) (by simp)))
      unfold E.tv at hc
      by_cases hok : E.okT T9 = true
      · rw [E.fit_of hok] at hc
        have HPN : Hid (eventR (some i) (some x) = ((i.norm, T9.norm), 0)) := Lib.hid (by
          have h1 := HT9.out.2
          rw [hok] at h1
          simp only [eventR]
          rw [if_neg (by rw [HZZ.out]; decide), if_pos h1.symm, HT9.out.1])
        clear hok
        simp only [E.normR] at hc
        go_wp2_with fail
        refine hc.mono ?_
        rintro e w10 ⟨v10, rfl, ht10, hb10⟩
        obtain ⟨Aq, nq, cq, rfl⟩ := E.InP.form ht10
        simp only at ht10 ⊢
        have ht10' := E.InP.old ht10
        obtain ⟨zq, hzq⟩ : ∃ zq, T9.norm.N = zq := ⟨_, rfl⟩
        rw [hzq] at ht10' ⊢
        have HZQ := Lib.hid hzq
        have sz10 : w.heap.size + 2 ≤ w10.heap.size := by
          have h1 := hb10.size
          have h2 := (HX9.out.box (w.heap.size + 1, 4) (by simp)).1.lt
          omega
        have HX10 := Lib.hid (((HX9.out.next hb10).e ht10').two (.int .i64 zq) (.slice Aq nq cq) 27)
        simp only [List.nil_append, List.cons_append] at HX10
        clear hc hb10 ht10 ht10' HX9 hzq
        clear p0 p1 p2 p3 p4 p5
        unfold E.tv
        go_upto_region 11 with fail
        generalize w10.alloc (.cells #[.int .i64 zq, .slice Aq nq cq] 27) = w11 at *
        have f := HX10.out.at0
        simp only [List.mem_cons, List.not_mem_nil, or_false, forall_eq_or_imp, forall_eq] at f
        obtain ⟨p0, p1, p2, p3, p4, p5, p6, p7⟩ := f
        obtain ⟨y0, y1, y2, y3, ⟨q0, q1, q2, q3⟩, r0, r1, r2, r3⟩ := HX10.out.facts4 (w.heap.size + 1) (by simp)
        have HX11 := Lib.hid ((HX10.out.sub (bs' := []) (rs' := [(w.heap.size + 1, 4)]) (is' := [(i.norm, I.tv o1 A1 n1 c1)]) (es' := [(T9.norm, E.tv zq Aq nq cq)]) (by simp) (by simp) (by simp) (by simp)).set4 (w.heap.size + 1) o1 (.slice A1 n1 c1) zq (.slice Aq nq cq) (by simp) (by simp) (by simp))
        clear HX10
        go_wp2
        have f := HX11.out.at0
        simp only [List.mem_cons, List.not_mem_nil, or_false, forall_eq_or_imp, forall_eq] at f
        obtain ⟨f0, f1, f2, f3⟩ := f
        refine bodyPost_ret (v := .tuple #[sv o1 A1 n1 c1 zq Aq nq cq, .int .i64 0]) (by simp [results, Tryz.f14, go_sem, sv, f0, f1, f2, f3]) rfl ?_
        rw [HPN.out]
        exact ⟨_, rfl, ⟨o1, A1, n1, c1, Aq, nq, cq, by simp only; rw [HZQ.out], HX11.out.iget (by simp), by simp only; rw [HZQ.out]; exact HX11.out.eget (by simp)⟩, HX11.out.bel⟩
      · have hf : E.fit T9 = none := by unfold E.fit; rw [if_neg hok]
        rw [hf] at hc
        have HPN : Hid (eventR (some i) (some x) = (zeroS, 50)) := Lib.hid (by
          have h1 := HT9.out.2
          simp only [eventR]
          rw [if_neg (by rw [HZZ.out]; decide), if_neg (by rw [← h1]; exact hok)])
        clear hok hf
        simp only [E.normR] at hc
        go_wp2_with fail
        refine hc.mono ?_
        rintro e w10 ⟨v10, rfl, ht10, hb10⟩
        obtain ⟨Aq, nq, cq, rfl⟩ := E.InP.form ht10
        simp only [E.Tr.N] at ht10 ⊢
        have HX10 := Lib.hid ((HX9.out.next hb10).two (.int .i64 0) (.slice Aq nq cq) 27)
        simp only [List.nil_append, List.cons_append] at HX10
        clear hc hb10 ht10 HX9
        clear p0 p1 p2 p3 p4 p5
        unfold E.tv
        go_upto_region 11 with fail
        generalize w10.alloc (.cells #[.int .i64 0, .slice Aq nq cq] 27) = w11 at *
        obtain ⟨y0, y1, y2, y3, ⟨q0, q1, q2, q3⟩, r0, r1, r2, r3⟩ := HX10.out.facts4 (w.heap.size + 1) (by simp)
        have HX9 := Lib.hid ((HX10.out.sub0 (bs' := []) (rs' := [(w.heap.size + 1, 4)]) (by simp) (by simp)).set4 (w.heap.size + 1) false (.slice none 0 0) 0 (.slice none 0 0) (by simp) (by simp) (by simp))
        clear HX10
        go_wp2
        have f := HX9.out.at0
        simp only [List.mem_cons, List.not_mem_nil, or_false, forall_eq_or_imp, forall_eq] at f
        obtain ⟨f0, f1, f2, f3⟩ := f
        refine bodyPost_ret (v := .tuple #[sv false none 0 0 0 none 0 0, .int .i64 50]) (by simp [results, Tryz.f14, go_sem, sv, f0, f1, f2, f3]) rfl ?_
        rw [HPN.out]
        exact ⟨_, rfl, SIn.zero _, HX9.out.bel⟩
end Go.Proofs.YtoaglkjpjolacaaGreatDoor.S
namespace Go.Proofs.YtoaglkjpjolacaaGreatDoor.S
open Go.RowKit
set_option maxRecDepth 100000 in
set_option maxHeartbeats 12800000 in
theorem events_walk (Ss : Option I.Tr) (Ts : Option E.Tr) (s : Value) (w : World) (htab : E.Tab w) (hs : SArg w Ss Ts s) : Calls Tryz.prog 4 #[s] w fun e w' => e = .returned (.bool true) ∧ Below w.heap.size w w' := by
  have Hs := Lib.hid hs
  obtain ⟨os, As, ns, cs, zs, Bs, ms, ds, rfl, _, _⟩ := hs
  have HTB := Lib.hid htab
  have HX0 := Lib.hid ((SX.begin w).four os (.slice As ns cs) zs (.slice Bs ms ds) 29)
  simp only [List.nil_append] at HX0
  clear htab
  unfold sv
  go_enter Tryz.func4, Tryz.ntmps4
  go_wp2_with fail
  refine (shown_any _ (HTB.out.up HX0.out.bel)).mono ?_
  rintro e w1 ⟨rfl, hb1⟩
  have HX1 := Lib.hid (HX0.out.next hb1)
  clear hb1 HX0
  have f := HX1.out.at0
  simp only [List.mem_cons, List.not_mem_nil, or_false, forall_eq_or_imp, forall_eq] at f
  obtain ⟨p0, p1, p2, p3⟩ := f
  have hcall := event_any (Hs.out.up HX1.out.bel)
  obtain ⟨rEX, EX0⟩ : ∃ r, eventR Ss Ts = r := ⟨_, rfl⟩
  rw [EX0] at hcall
  obtain ⟨⟨ix, xx⟩, kEX⟩ := rEX
  have EX := Lib.hid EX0
  clear EX0
  unfold sv at hcall
  go_wp2_with fail
  refine hcall.mono ?_
  rintro e w2 ⟨vx, rfl, hx, hb2⟩
  simp only at hx ⊢
  have gx := hx
  obtain ⟨ox, Ax, nx, cx, Bx, mx, dx, rfl, _, _⟩ := gx
  obtain ⟨zx, hzx⟩ : ∃ z, xx.N = z := ⟨_, rfl⟩
  rw [hzx] at hx ⊢
  clear hzx
  have HX2 := Lib.hid ((HX1.out.next hb2).four ox (.slice Ax nx cx) zx (.slice Bx mx dx) 29)
  simp only [List.nil_append, List.cons_append] at HX2
  have hbx : Below w2.heap.size w2 (w2.alloc (.cells #[.bool ox, .slice Ax nx cx, .int .i64 zx, .slice Bx mx dx] 29)) := (Below.refl _ w2).alloc (Nat.le_refl _) _
  have hby := hb2.trans (hbx.mono hb2.size)
  have Ux2 := Lib.hid (hx.up hbx)
  clear hcall hbx hby hb2 HX1 hx p0 p1 p2 p3
  unfold sv
  go_upto_region 3 with fail
  generalize (w2.alloc (.cells #[.bool ox, .slice Ax nx cx, .int .i64 zx, .slice Bx mx dx] 29)) = v2w at *
  have f := HX2.out.at0
  simp only [List.mem_cons, List.not_mem_nil, or_false, forall_eq_or_imp, forall_eq] at f
  obtain ⟨p0, p1, p2, p3, p4, p5, p6, p7⟩ := f
  have hcall := revent_any (Hs.out.up HX2.out.bel)
  obtain ⟨rEY, EY0⟩ : ∃ r, eventR Ss Ts = r := ⟨_, rfl⟩
  rw [EY0] at hcall
  obtain ⟨⟨iy, xy⟩, kEY⟩ := rEY
  have EY := Lib.hid EY0
  clear EY0
  unfold sv at hcall
  go_wp2_with fail
  refine hcall.mono ?_
  rintro e w3 ⟨vy, rfl, hy, hb3⟩
  simp only at hy ⊢
  have gy := hy
  obtain ⟨oy, Ay, ny, cy, By, my, dy, rfl, _, _⟩ := gy
  obtain ⟨zy, hzy⟩ : ∃ z, xy.N = z := ⟨_, rfl⟩
  rw [hzy] at hy ⊢
  clear hzy
  have HX3 := Lib.hid ((HX2.out.next hb3).four oy (.slice Ay ny cy) zy (.slice By my dy) 29)
  simp only [List.nil_append, List.cons_append] at HX3
  have hbx : Below w3.heap.size w3 (w3.alloc (.cells #[.bool oy, .slice Ay ny cy, .int .i64 zy, .slice By my dy] 29)) := (Below.refl _ w3).alloc (Nat.le_refl _) _
  have hby := hb3.trans (hbx.mono hb3.size)
  have Ux3 := Lib.hid (Ux2.out.up hby)
  clear Ux2
  have Uy3 := Lib.hid (hy.up hbx)
  clear hcall hbx hby hb3 HX2 hy p0 p1 p2 p3 p4 p5 p6 p7
  unfold sv
  go_upto_region 4 with fail
  generalize (w3.alloc (.cells #[.bool oy, .slice Ay ny cy, .int .i64 zy, .slice By my dy] 29)) = v3w at *
  have f := HX3.out.at0
  simp only [List.mem_cons, List.not_mem_nil, or_false, forall_eq_or_imp, forall_eq] at f
  obtain ⟨p0, p1, p2, p3, p4, p5, p6, p7, p8, p9, p10, p11⟩ := f
  have hpq := EX.out.symm.trans EY.out
  simp only [Prod.mk.injEq] at hpq
  obtain ⟨⟨rfl, rfl⟩, rfl⟩ := hpq
  have hkk : (kEX == kEX) = true := by simp
  have hcall := equal_any Ux3.out Uy3.out
  rw [I.eqT_refl, E.eqT_refl] at hcall
  simp only [Bool.and_true] at hcall
  unfold sv at hcall
  go_wp2_with fail
  refine hcall.mono ?_
  rintro e w4 ⟨rfl, hb4⟩
  have HX4 := Lib.hid (HX3.out.next hb4)
  have Ux4 := Lib.hid (Ux3.out.up hb4)
  clear Ux3
  have Uy4 := Lib.hid (Uy3.out.up hb4)
  clear Uy3
  clear hcall hb4 HX3 p0 p1 p2 p3 p4 p5 p6 p7 p8 p9 p10 p11
  have f := HX4.out.at0
  simp only [List.mem_cons, List.not_mem_nil, or_false, forall_eq_or_imp, forall_eq] at f
  obtain ⟨p0, p1, p2, p3, p4, p5, p6, p7, p8, p9, p10, p11⟩ := f
  have HEND := Lib.hid HX4.out.bel
  clear HX4
  go_wp2
  go_ret
  exact ⟨rfl, HEND.out⟩
end Go.Proofs.YtoaglkjpjolacaaGreatDoor.S
