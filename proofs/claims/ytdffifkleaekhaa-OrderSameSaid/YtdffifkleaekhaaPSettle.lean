/-
  settle.
-/
import Derived.Test.YtdffifkleaekhaaPRel
import Derived.Shelf.RegionOpen
import Derived.OwnWalkIn
import Derived.TacticsInMore
import Derived.LoopNIn
import Derived.LoopIn
import Derived.RegionIn
namespace Go.Proofs.Ytdffifkleaekhaa.O
open Go.RowKit Go.Shelf Go.Proofs.Ytdffifkleaekhaa.V
attribute [local go_sem] Oper.semAt_some
set_option linter.unusedVariables false
set_option linter.unusedSimpArgs false


theorem box_one {w : World} {B : Nat} {t : TypeId} {v u : Value} {o : Nat} (hB : Boxed w B t v) (h : w.cell? ⟨B, o, none⟩ = some u) : u = v := by
  rw [cell_of_row w B o #[v] t (0, 0) hB] at h
  cases o with
  | zero => simp at h; exact h.symm
  | succ k => simp at h
theorem Pv.At.box_set {p : Pv} {w : World} {b B : Nat} {t : TypeId} {k : IntKind} {n : Int} (h : p.At w b) (hB : Boxed w B t (.int k n)) (h1 : t ≠ 23) (h2 : t ≠ 88) (u : Value) : p.At (w.setCell ⟨B, 0, none⟩ u) b := by
  have hno := boxed_not_own h hB h1 h2
  have hb : But (fun k => k = B) w (w.setCell ⟨B, 0, none⟩ u) := (But.refl (fun k => k = B) w).setCell (p := ⟨B, 0, none⟩) (.inl rfl) _
  have hs : ∀ k, p.own b k → (w.setCell ⟨B, 0, none⟩ u).heap[k]? = w.heap[k]? := fun k hk => hb.block k (h.own_lt k hk).2 fun e => hno (e ▸ hk)
  have hrow : ∀ {A : Option Addr} {l : List D}, RowD w w.heap.size A l → RowD (w.setCell ⟨B, 0, none⟩ u) (w.setCell ⟨B, 0, none⟩ u).heap.size A l := fun {A l} hr hn => by
    obtain ⟨g, off, e, hg, hc⟩ := hr hn
    have hx : g ≠ B := fun e2 => by
      subst e2
      have := box_one hB (hc 0 _ (List.getElem?_eq_getElem hn)).1
      cases this
    exact ⟨g, off, e, Nat.lt_of_lt_of_le hg hb.size, fun j d hj => ⟨hb.cell (p := ⟨g, off + j * 2, none⟩) hx (hc j d hj).1, hb.cell (p := ⟨g, off + j * 2 + 1, none⟩) hx (hc j d hj).2⟩⟩
  refine ⟨(hs b (.inl rfl)).trans h.box, grD_same h.gd fun k hk => hs k (.inr (.inr (.inl hk))), grD_same h.gw fun k hk => hs k (.inr (.inr (.inr hk))), h.ne, ⟨hrow h.k.1, h.k.2⟩, h.kf.more hb.size, h.mp.same fun k hk => hs k (.inr (.inl hk)), fun x hx => ?_⟩
  obtain ⟨g1, g2, g3⟩ := h.ops x hx
  exact ⟨⟨⟨hrow g1.d.1, g1.d.2⟩, ⟨hrow g1.s.1, g1.s.2⟩, g1.fit⟩, g2.more hb.size, g3.more hb.size⟩
theorem mark_not_own {p : Pv} {w : World} {b D : Nat} {l : Option (List Deferred)} (h : p.At w b) (hD : w.heap[D]? = some (.deferred l)) : ¬ p.own b D := by
  rintro (rfl | hk | hk | hk)
  · have h0 : w.heap[D]? = _ := h.box
    rw [hD] at h0; cases h0
  · have hm := h.mp
    unfold Pv.map at hm
    rw [hk] at hm
    obtain ⟨es, clock, hmk⟩ := hm.2.kind
    rw [hD] at hmk; cases hmk
  · obtain ⟨cs, hc⟩ := grD_kind h.gd D hk
    rw [hD] at hc; cases hc
  · obtain ⟨cs, hc⟩ := grD_kind h.gw D hk
    rw [hD] at hc; cases hc
/-- Where settle stands. -/
structure St (w0 : World) (b B1 B3 : Nat) (pv0 : Pv) (q0 : Pool) (pv : Pv) (q : Pool) (many : Int) (Ds : List Nat) (W : World) : Prop where
  step : Step pv0 w0 pv W b
  rel : Rel pv q
  inv : Inv q
  len : q.L.length + q.W.length ≤ 1000000
  O : pv.O = pv0.O ∧ pv.M = pv0.M
  b1 : Boxed W B1 37 (.pointer (some ⟨b, 0, none⟩))
  b3 : Boxed W B3 3 (.int .i64 many)
  mn : 0 ≤ many ∧ many + q.W.length ≤ 1000000
  dr : (drain q0.W.length q0).1 = (drain q.W.length q).1 ∧ (drain q0.W.length q0).2 = many + (drain q.W.length q).2
  ds : ∀ D ∈ Ds, w0.heap.size ≤ D ∧ W.heap[D]? = some (.deferred (some []))
section
variable {w0 W V : World} {b B1 B3 : Nat} {pv0 pv : Pv} {q0 q : Pool} {many : Int} {Ds : List Nat}
theorem boxed_keeps {X Y : World} {row : Option Nat} {B : Nat} {t : TypeId} {v : Value} (h : Boxed X B t v) (hg : X.grownBy Y row) (hr : ∀ r, row = some r → ∃ o : Obj, X.heap[r]? = some o ∧ o.isCells = false) : Boxed Y B t v :=
  boxed_own B t (fun _ : Unit => v) () X Y row h hg hr
theorem Step.grown {p p' : Pv} {w w' w'' : World} {row : Option Nat} (h : Step p w p' w' b) (hg : w'.grownBy w'' row) (hr : ∀ r, row = some r → w.heap.size ≤ r ∧ ∃ o : Obj, w'.heap[r]? = some o ∧ o.isCells = false) (hm : ∀ r, row = some r → p'.M ≠ some r) : Step p w p' w'' b :=
  ⟨h.at_.grown hg (fun r e => (hr r e).2) hm, h.but.grown hg (fun k e => .inr (hr k e).1), h.own, h.foot⟩
theorem St.up (h : St w0 b B1 B3 pv0 q0 pv q many Ds W) (hb : Below W.heap.size W V) : St w0 b B1 B3 pv0 q0 pv q many Ds V :=
  ⟨h.step.then hb, h.rel, h.inv, h.len, h.O, boxed_below h.b1 hb h.b1.lt, boxed_below h.b3 hb h.b3.lt, h.mn, h.dr, fun D hD => ⟨(h.ds D hD).1, (hb.block D (Array.getElem?_eq_some_iff.1 (h.ds D hD).2).1).trans (h.ds D hD).2⟩⟩
theorem St.size (h : St w0 b B1 B3 pv0 q0 pv q many Ds W) : w0.heap.size ≤ W.heap.size := h.step.but.size
theorem St.no1 (h : St w0 b B1 B3 pv0 q0 pv q many Ds W) : ¬ pv.own b B1 := boxed_not_own h.step.at_ h.b1 (by decide) (by decide)
theorem St.no3 (h : St w0 b B1 B3 pv0 q0 pv q many Ds W) : ¬ pv.own b B3 := boxed_not_own h.step.at_ h.b3 (by decide) (by decide)
theorem St.ne13 (h : St w0 b B1 B3 pv0 q0 pv q many Ds W) : B1 ≠ B3 := fun e => by
  have h1 : W.heap[B1]? = _ := h.b1
  have h3 : W.heap[B3]? = _ := h.b3
  rw [← e, h1] at h3
  injection h3 with h3; injection h3 with _ h3; cases h3
end
def SI (w0 : World) (b B1 B3 : Nat) (pv0 : Pv) (q0 : Pool) (A : Act) (W : World) : Prop :=
  ∃ (pv : Pv) (q : Pool) (many : Int) (Ds : List Nat) (u4 u5 u6 u7 u8 u9 u10 u11 u12 u13 u14 u15 u16 u17 u18 u19 u20 u21 u22 u23 u24 u25 u26 : Value), A = { tmps := #[.pointer (some ⟨b, 0, none⟩), .pointer (some ⟨B1, 0, none⟩), .int .i64 0, .pointer (some ⟨B3, 0, none⟩), u4, u5, u6, u7, u8, u9, u10, u11, u12, u13, u14, u15, u16, u17, u18, u19, u20, u21, u22, u23, u24, u25, u26], defers := marks Ds } ∧ Ds.Nodup ∧ St w0 b B1 B3 pv0 q0 pv q many Ds W
def lenW (b : Nat) (W : World) : Nat := match W.cell? ⟨b, 2, none⟩ with
  | some (.slice _ n _) => n
  | _ => 0
theorem St.lenW {w0 W : World} {b B1 B3 : Nat} {pv0 pv : Pv} {q0 q : Pool} {many : Int} {Ds : List Nat} (h : St w0 b B1 B3 pv0 q0 pv q many Ds W) : Go.Proofs.Ytdffifkleaekhaa.O.lenW b W = q.W.length := by
  unfold Go.Proofs.Ytdffifkleaekhaa.O.lenW
  rw [h.step.at_.box.at.c2, h.rel.ws]
  simp
/-- What a round leaves. -/
def SX (WR : World) (w0 : World) (b B1 B3 : Nat) (pv0 : Pv) (q0 : Pool) (q : Pool) (Ds : List Nat) (cd : Code) (pre : List (Nat × D)) (V : World) : Prop :=
  cd = .exit 1 ∧ WR.heap.size ≤ V.heap.size ∧ (pv0.M = none ∨ ∃ m, pv0.M = some m ∧ m < WR.heap.size) ∧ ∃ (pv' : Pv) (q' : Pool) (many' : Int), q'.W.length < q.W.length ∧ St w0 b B1 B3 pv0 q0 pv' q' many' Ds V
theorem sx_own (WR w0 : World) (b B1 B3 : Nat) (pv0 : Pv) (q0 q : Pool) (Ds : List Nat) (hw : w0.heap.size ≤ WR.heap.size) (hD : ∀ D ∈ Ds, D < WR.heap.size) (cd : Code) : OwnFrom WR.heap.size (SX WR w0 b B1 B3 pv0 q0 q Ds cd) := fun pre X Y row hs hg hr => by
  obtain ⟨h1, h2, h3, pv', q', many', h4, h⟩ := hs
  refine ⟨h1, Nat.le_trans h2 hg.size, h3, pv', q', many', h4, ⟨h.step.grown hg (fun r e => ⟨Nat.le_trans hw (hr r e).1, (hr r e).2⟩) (fun r e hm => ?_), h.rel, h.inv, h.len, h.O, boxed_keeps h.b1 hg (fun r e => (hr r e).2), boxed_keeps h.b3 hg (fun r e => (hr r e).2), h.mn, h.dr, fun D hd => ⟨(h.ds D hd).1, ?_⟩⟩⟩
  · rw [h.O.2] at hm
    rcases h3 with h3 | ⟨m, h3, hl⟩
    · rw [h3] at hm; cases hm
    · rw [h3] at hm; injection hm with hm; have := (hr r e).1; omega
  · exact (hg.block D (Array.getElem?_eq_some_iff.1 (h.ds D hd).2).1 fun e => by have := (hr D e.symm).1; have := hD D hd; omega).trans (h.ds D hd).2

set_option maxRecDepth 100000 in
set_option maxHeartbeats 4000000 in
theorem settle_in {pv0 : Pv} {w0 : World} {b : Nat} {q0 : Pool} (h : pv0.At w0 b) (hr : Rel pv0 q0) (hi : Inv q0) (hn : q0.L.length + q0.W.length ≤ 1000000) :
    CallsIn Fence.wide 20 Try.prog 64 #[.pointer (some ⟨b, 0, none⟩)] w0 fun e w' => ∃ pv, e = .returned (.int .i64 (drain q0.W.length q0).2) ∧ Rel pv (drain q0.W.length q0).1 ∧ Step pv0 w0 pv w' b ∧ pv.O = pv0.O := by
  have hro : Fence.wide.round = none := rfl
  have f0 := (Boxed.new w0 37 (.pointer (some ⟨b, 0, none⟩))).alloc (.cells #[.int .i64 0] 3)
  have f1 := Boxed.new (w0.alloc (.cells #[.pointer (some ⟨b, 0, none⟩)] 37)) 3 (.int .i64 0)
  have hB0 : Below w0.heap.size w0 ((w0.alloc (.cells #[.pointer (some ⟨b, 0, none⟩)] 37)).alloc (.cells #[.int .i64 0] 3)) := ((Below.refl _ w0).alloc (Nat.le_refl _) _).alloc (by simp) _
  rw [World.size_alloc] at f1
  have HS0 : Hid (St w0 b w0.heap.size (w0.heap.size + 1) pv0 q0 pv0 q0 0 [] ((w0.alloc (.cells #[.pointer (some ⟨b, 0, none⟩)] 37)).alloc (.cells #[.int .i64 0] 3))) :=
    ⟨Step.of h hB0, hr, hi, hn, ⟨rfl, rfl⟩, f0, f1, ⟨by omega, by omega⟩, ⟨rfl, by omega⟩, by simp⟩
  have HM : Hid (∀ m, pv0.M = some m → m < w0.heap.size) := fun m hm => (h.own_lt m (.inr (.inl hm))).2
  clear f0 f1 hB0 h hr hi hn
  refine callsIn_of_wp_marks Try.func64 rfl trivial ?_ hro
  simp only [Try.ntmps64, List.size_toArray, List.length_cons, List.length_nil, Nat.reduceAdd, Nat.reduceSub, Array.replicate_succ, Array.replicate_zero, List.push_toArray, List.append_toArray, List.nil_append, List.cons_append]
  gi_wp2
  refine scope_wide ?_
  gi_wp2
  refine wpIn_label ?_
  gi_wp2
  generalize hB1 : w0.heap.size = B1 at *
  generalize hB3 : B1 + 1 = B3 at *
  obtain ⟨W0, hW0⟩ : ∃ W0, (w0.alloc (.cells #[.pointer (some ⟨b, 0, none⟩)] 37)).alloc (.cells #[.int .i64 0] 3) = W0 := ⟨_, rfl⟩
  rw [hW0] at HS0 ⊢
  have HBB : Hid (w0.heap.size = B1 ∧ B1 + 1 = B3) := ⟨hB1, hB3⟩
  clear hW0 hB1 hB3
  refine wpIn_loop (SI w0 b B1 B3 pv0 q0) (fun _ W => lenW b W) ?start ?round
  case start => exact ⟨pv0, q0, 0, [], _, _, _, _, _, _, _, _, _, _, _, _, _, _, _, _, _, _, _, _, _, _, _, rfl, List.nodup_nil, HS0.out⟩
  case round =>
    rintro _ W ⟨pv, q, many, Ds, u4, u5, u6, u7, u8, u9, u10, u11, u12, u13, u14, u15, u16, u17, u18, u19, u20, u21, u22, u23, u24, u25, u26, rfl, hnd, hS⟩
    have HLW : Hid (lenW b W = q.W.length) := hS.lenW
    have HS := Lib.hid hS
    have cb := hS.b1.cell
    clear HS0
    gi_wp2_with (refine ⟨trivial, ?_⟩; gi_at_call 89; refine (ready_in _ _ _).mono ?_; rintro e w' ⟨rfl, rfl⟩)
    obtain ⟨WR, hWR⟩ : ∃ WR, W.alloc (.cells #[.pointer (some ⟨b, 0, none⟩)] 37) = WR := ⟨_, rfl⟩
    have hsz : WR.heap.size = W.heap.size + 1 := by rw [← hWR]; simp
    have hbR : Below W.heap.size W WR := by rw [← hWR]; exact (Below.refl _ W).alloc (Nat.le_refl _) _
    have HR := Lib.hid (hS.up hbR)
    have hcp : WR.cell? ⟨W.heap.size, 0, none⟩ = some (.pointer (some ⟨b, 0, none⟩)) := by rw [← hWR]; exact (Boxed.new W 37 _).cell
    have hXlt : ∀ k, (pv.own b k ∨ k = B3) → k < WR.heap.size := fun k hk => by
      rcases hk with hk | rfl
      · exact (HR.out.step.at_.own_lt k hk).2
      · exact HR.out.b3.lt
    have hXp : ¬ (pv.own b W.heap.size ∨ W.heap.size = B3) := fun hk => by
      rcases hk with hk | hk
      · have := (hS.step.at_.own_lt _ hk).2; omega
      · have := hS.b3.lt; omega
    have hseq := ready_seq pv b W.heap.size (fun k => pv.own b k ∨ k = B3) WR HR.out.step.at_ (by omega) hcp (HR.out.rel.all HR.out.inv) (by rw [HR.out.rel.ws]; have := HR.out.len; simp; omega) hXlt hXp
    have hDl : ∀ D ∈ Ds, D < WR.heap.size := fun D hd => (Array.getElem?_eq_some_iff.1 (HR.out.ds D hd).2).1
    rw [hWR]
    have HSZ := Lib.hid hsz
    have HDL := Lib.hid hDl
    have HXL := Lib.hid (And.intro hXlt hXp)
    have hwr : w0.heap.size ≤ WR.heap.size := HR.out.size
    have HMM : Hid (pv0.M = none ∨ ∃ m, pv0.M = some m ∧ m < WR.heap.size) := by
      show _ ∨ _
      cases hM : pv0.M with
      | none => exact .inl rfl
      | some m => exact .inr ⟨m, rfl, Nat.lt_of_lt_of_le (HM.out m hM) (by have := HBB.out; omega)⟩
    clear cb hcp hbR hWR hXlt hXp hDl hsz
    generalize hpb : W.heap.size = pb at *
    refine range_own (gf := 101) (lb := #[.pointer (some ⟨pb, 0, none⟩)]) rfl (enters_of Try.func101 (by kernel_rfl) rfl) hseq (fun hx => by have := HXL.out.1 _ hx; omega) (fun hx => by have := HXL.out.1 _ hx; omega) (Below.refl _ _) (fun _ => rfl)
      (fun pre V => Below WR.heap.size WR V)
      (SX WR w0 b B1 B3 pv0 q0 q Ds)
      (ownFrom_below (Nat.le_refl _) (Nat.le_refl _))
      (sx_own WR w0 b B1 B3 pv0 q0 q Ds hwr HDL.out)
      (Below.refl _ _)
      (fun x a' V => ∃ Bd, WR.heap.size ≤ Bd ∧ Two V Bd (.string x.2.1) (.int .i64 x.2.2) ∧ a' = { tmps := #[.pointer (some ⟨b, 0, none⟩), .pointer (some ⟨B1, 0, none⟩), .int .i64 0, .pointer (some ⟨B3, 0, none⟩), .int .i64 (x.1 : Int), .pointer (some ⟨Bd, 0, none⟩), .pointer (some ⟨b, 0, none⟩), .func (.func 101) #[] #[.pointer (some ⟨pb, 0, none⟩)], .int .i64 (x.1 : Int), .agg #[.string x.2.1, .int .i64 x.2.2], u10, u11, u12, u13, u14, u15, u16, u17, u18, u19, u20, u21, u22, u23, u24, u25, u26], defers := [] })
      (fun x a' _ V V' row hs hg hr => by
        obtain ⟨Bd, h1, h2, e⟩ := hs
        exact ⟨Bd, h1, two_own h2 hg (fun r e => (hr r e).2), e⟩) ?assign ?body ?done ?stop
    case assign =>
      rintro l' pre x V K hsv h2 hK
      unfold encR
      gi_wp2
      exact hK _ _ ((Kept.refl _ V).alloc _) (h2.alloc h2.size _) ⟨V.heap.size, hsv, Two.new V _ _, rfl⟩
    case body =>
      rintro l' pre x a' V hsv h2 ⟨Bd, hBd, hT, rfl⟩ ⟨rfl, hfst⟩
      obtain ⟨i, s, n⟩ := x
      have HV := Lib.hid (HR.out.up h2)
      obtain ⟨o, hfi, hwo, hod, hrd, hil⟩ := HV.out.rel.fst HV.out.inv hfst
      have HQ := Lib.hid (And.intro hfi (And.intro hwo (And.intro hod (And.intro hrd hil))))
      simp only at hod hil hT
      have HBd : Hid (¬ pv.own b Bd) := fun ho => by have := (HR.out.step.at_.own_lt _ ho).2; omega
      have HBd3 : Hid (Bd ≠ B3 ∧ Bd ≠ B1) := ⟨fun e => by have := HR.out.b3.lt; omega, fun e => by have := HR.out.b1.lt; omega⟩
      obtain ⟨wl, hwl⟩ : ∃ wl, pv.ws.length = wl := ⟨_, rfl⟩
      have hil2 : i < wl := by rw [← hwl, HV.out.rel.ws]; simpa using hil
      have hwl6 : wl ≤ 1000000 := by rw [← hwl, HV.out.rel.ws]; have := HV.out.len; simp; omega
      have HWL := Lib.hid hwl
      obtain ⟨Aw, hAw⟩ : ∃ A, pv.Aw = A := ⟨_, rfl⟩
      obtain ⟨cw, hcw⟩ : ∃ A, pv.cw = A := ⟨_, rfl⟩
      have HAW := Lib.hid (And.intro hAw hcw)
      have HVd := Lib.hid (HV.out.up (Below.refl _ V).drew)
      have hTd : Two V.drew Bd (.string s) (.int .i64 n) := hT
      have HTd := Lib.hid hTd
      have HN2 := Lib.hid (And.intro h2 (And.intro hBd hsv))
      have hwrap : IntKind.wrap .i64 ((i : Int) + 1) = (i : Int) + 1 := by rw [IntKind.wrap_i64]; omega
      clear hseq hfst hfi hwo hod hrd hil hwl hAw hcw hT hTd h2 HV hnd hBd hsv
      gi_wp2_with fail
      refine region_heldIn (fun V => V.cell? ⟨B1, 0, none⟩ = some (.pointer (some ⟨b, 0, none⟩))) (by kernel_rfl) (by kernel_rfl) (fun _ _ h => h) ?_
      simp only [List.length_cons, List.length_nil, Nat.zero_add, Nat.reduceAdd, Array.replicate_succ, Array.replicate_zero, List.push_toArray, List.nil_append, List.cons_append]
      have HBD : Hid (Below V.heap.size V V.drew) := (Below.refl _ V).drew
      have hS : V.drew.cell? ⟨B1, 0, none⟩ = some (.pointer (some ⟨b, 0, none⟩)) := HVd.out.b1.cell
      generalize V.drew = Vd at *
      refine wpAnyH_take (i := 0) (v := ?_) rfl (by kernel_rfl) (by kernel_rfl) (by kernel_rfl) (fun _ _ _ h => h) (Or.inl ⟨by kernel_rfl, fun W hW => ?_⟩) hS ?_
      rotate_left
      · have e0 := hW
        first | (go_simp; done) | (go_simp; with_reducible rfl)
      refine wpAnyH_take (i := 1) (v := ?_) rfl (by kernel_rfl) (by kernel_rfl) (by kernel_rfl) (fun _ _ _ h => h) (Or.inl ⟨by kernel_rfl, fun W hW => ?_⟩) hS ?_
      rotate_left
      · have e0 := hW
        first | (go_simp; done) | (go_simp; with_reducible rfl)
      refine wpAnyH_take (i := 2) (v := ?_) rfl (by kernel_rfl) (by kernel_rfl) (by kernel_rfl) (fun _ _ _ h => h) (Yields.yieldsIf (Or.inl ⟨by kernel_rfl, ?_⟩)) hS ?_
      rotate_left
      · first | (intro w; go_simp; done) | (intro w; go_simp; with_reducible rfl)
      refine wpAnyH_take (i := 3) (v := ?_) rfl (by kernel_rfl) (by kernel_rfl) (by kernel_rfl) (fun _ _ _ h => h) (Yields.yieldsIf (Or.inl ⟨by kernel_rfl, ?_⟩)) hS ?_
      rotate_left
      · first | (intro w; go_simp; done) | (intro w; go_simp; with_reducible rfl)
      refine wpAnyH_take (i := 5) (v := ?_) rfl (by kernel_rfl) (by kernel_rfl) (by kernel_rfl) (fun _ _ _ h => h) (Yields.yieldsIf (Or.inl ⟨by kernel_rfl, ?_⟩)) hS ?_
      rotate_left
      · first | (intro w; go_simp; done) | (intro w; go_simp; with_reducible rfl)
      refine wpAnyH_take (i := 6) (v := ?_) rfl (by kernel_rfl) (by kernel_rfl) (by kernel_rfl) (fun _ _ _ h => h) (Yields.yieldsIf (Or.inl ⟨by kernel_rfl, ?_⟩)) hS ?_
      rotate_left
      · first | (intro w; go_simp; done) | (intro w; go_simp; with_reducible rfl)
      refine wpAnyH_take (i := 7) (v := ?_) rfl (by kernel_rfl) (by kernel_rfl) (by kernel_rfl) (fun _ _ _ h => h) (Yields.yieldsIf (Or.inl ⟨by kernel_rfl, ?_⟩)) hS ?_
      rotate_left
      · first | (intro w; go_simp; done) | (intro w; go_simp; with_reducible rfl)
      try go_simp
      refine wpAnyH_ready (rs := [4]) (by kernel_rfl) (by simp) ?_
      refine AllReadyH.cons rfl (fun K hK => ?_) AllReadyH.nil
      have k2 : Vd.cell? ⟨b, 2, none⟩ = some (.slice Aw wl cw) := by
        have h0 := HVd.out.step.at_.box.at.c2
        rw [HWL.out, HAW.out.1, HAW.out.2] at h0; exact h0
      go_simp
      have hS3 : Vd.cell? ⟨B1, 0, none⟩ = some (.pointer (some ⟨b, 0, none⟩)) := HVd.out.b1.cell
      clear k2
      refine hK.out _ _ hS3 (fun hS => ?_)
      clear hK K hS3
      try go_simp
      refine wpAnyH_ready (rs := [8]) (by kernel_rfl) (by simp) ?_
      refine AllReadyH.cons rfl (fun K hK => ?_) AllReadyH.nil
      have hcall := delete_any (i := i) (J := i + 1) (show GrD Vd b Aw cw pv.ws from by have h0 := HVd.out.step.at_.gw; rw [HAW.out.1, HAW.out.2] at h0; exact h0) HWL.out hil2 rfl hwl6
      rw [show ((i + 1 : Nat) : Int) = (i : Int) + 1 by omega] at hcall
      go_simp
      go_wp2_with fail
      refine hcall.mono ?_
      rintro e wa ⟨rfl, hga, hba⟩
      clear hcall
      have hno1 : blk Aw ≠ some B1 := fun e => HVd.out.no1 (.inr (.inr (.inr (by rw [HAW.out.1]; exact e))))
      have hnob : blk Aw ≠ some b := fun e => HVd.out.step.at_.apart.2.2 (by rw [HAW.out.1]; exact e)
      have hboxa := hba.heap (k := b) (fun e => hnob e) HVd.out.step.at_.box
      have HBX : Hid (wa.frozen? ⟨b, 2, none⟩ = false ∧ ∃ v, wa.cell? ⟨b, 2, none⟩ = some v) := ⟨(B4.fr hboxa).f2, _, (B4.at hboxa).c2⟩
      have hle : (pv.ws.eraseIdx i).length = wl - 1 := by rw [List.length_eraseIdx, if_pos (by rw [HWL.out]; exact hil2), HWL.out]
      have hst := HVd.out.step.at_.waits hga (fun k hk hx => hba.block k hk (by rw [← HAW.out.1]; exact hx)) (hba.below (B := b) (fun k hk => (HVd.out.step.at_.own_lt k (.inr (.inr (.inr (by rw [HAW.out.1]; exact hk))))).1) (by have := (HVd.out.step.at_.own_lt b (.inl rfl)).2; omega)) (.inl (by rw [HAW.out.1]))
      rw [hle] at hst
      have HST := Lib.hid hst
      have HB1a : Hid (wa.cell? ⟨B1, 0, none⟩ = some (.pointer (some ⟨b, 0, none⟩))) := hba.cell (p := ⟨B1, 0, none⟩) (fun e => hno1 e) HVd.out.b1.cell
      have hS3 : wa.cell? ⟨B1, 0, none⟩ = some (.pointer (some ⟨b, 0, none⟩)) := HB1a.out
      clear hga hba hno1 hnob hboxa hle hst
      refine hK.out _ _ hS3 (fun hS => ?_)
      clear hK K hS3
      refine wpAnyH_take (i := 9) (v := ?_) rfl (by kernel_rfl) (by kernel_rfl) (by kernel_rfl) (fun _ _ _ h => h) (Yields.yieldsIf (Or.inl ⟨by kernel_rfl, ?_⟩)) hS ?_
      rotate_left
      · first | (intro w; go_simp; done) | (intro w; go_simp; with_reducible rfl)
      refine wpAnyH_take (i := 10) (v := ?_) rfl (by kernel_rfl) (by kernel_rfl) (by kernel_rfl) (fun _ _ _ h => h) (Yields.yieldsIf (Or.inl ⟨by kernel_rfl, ?_⟩)) hS ?_
      rotate_left
      · first | (intro w; go_simp; done) | (intro w; go_simp; with_reducible rfl)
      try go_simp
      refine wpAnyH_ready (rs := [11]) (by kernel_rfl) (by simp) ?_
      refine AllReadyH.cons rfl (fun K hK => ?_) AllReadyH.nil
      obtain ⟨f2, v2, g2⟩ := HBX.out
      go_simp
      go_wp2_with fail
      have hne : B1 ≠ b := fun e => HVd.out.no1 (.inl e)
      have hS3 : (wa.setCell ⟨b, 2, none⟩ (.slice Aw (wl - 1) cw)).cell? ⟨B1, 0, none⟩ = some (.pointer (some ⟨b, 0, none⟩)) := (World.cell?_of_block (Below.heap_setCell wa ⟨b, 2, none⟩ _ B1 hne)).trans HB1a.out
      clear f2 g2 hne
      refine hK.out _ _ hS3 (fun hS => ?_)
      clear hK K hS3
      try go_simp
      refine wpAnyH_done (by kernel_rfl) ?_ _
      obtain ⟨p1, hp1⟩ : ∃ p1, { pv with Aw := Aw, cw := cw, ws := pv.ws.eraseIdx i } = p1 := ⟨_, rfl⟩
      rw [hp1] at HST
      have HP1 := Lib.hid hp1
      have hV1 : Step pv V p1 (wa.setCell ⟨b, 2, none⟩ (.slice Aw (wl - 1) cw)) b := (Step.of (HR.out.up HN2.out.1).step.at_ HBD.out).trans HST.out
      have hb3 : Boxed (wa.setCell ⟨b, 2, none⟩ (.slice Aw (wl - 1) cw)) B3 3 (.int .i64 many) := HST.out.but.heap HVd.out.no3 HVd.out.b3
      have hb1 : Boxed (wa.setCell ⟨b, 2, none⟩ (.slice Aw (wl - 1) cw)) B1 37 (.pointer (some ⟨b, 0, none⟩)) := HST.out.but.heap HVd.out.no1 HVd.out.b1
      have htw : Two (wa.setCell ⟨b, 2, none⟩ (.slice Aw (wl - 1) cw)) Bd (.string s) (.int .i64 n) := HST.out.but.heap HBd.out HTd.out
      obtain ⟨wb, hwb⟩ : ∃ wb, wa.setCell ⟨b, 2, none⟩ (.slice Aw (wl - 1) cw) = wb := ⟨_, rfl⟩
      rw [hwb] at HST hV1 hb3 hb1 htw ⊢
      have hrw := with_zero (K := pv.K) (d := (s, n)) (by
        have h0 := HQ.out.2.2.2.1
        unfold ready at h0
        have h1 := of_decide_eq_true (Bool.and_eq_true_iff.1 h0).1
        rw [HQ.out.2.2.1, ← HVd.out.rel.K] at h1
        exact h1)
      have hk0 : (withO p1.K (s, n)).2 = 0 := by rw [← HP1.out, hrw.2.2.2.2]
      have hdl : p1.ds.length ≤ 1000000 := by rw [← HP1.out]; show pv.ds.length ≤ _; rw [HVd.out.rel.ds]; have := HVd.out.len; simp; omega
      have hcall := deliver_any HST.out.at_ s n hk0 hdl
      have HB13 := Lib.hid (And.intro hb1 (And.intro hb3 hV1))
      have g0 := hb1.cell
      have g1 := htw.c0
      have g2 := htw.c1
      have HBDN : Hid (¬ p1.own b B1 ∧ ¬ p1.own b B3) := ⟨boxed_not_own HST.out.at_ hb1 (by decide) (by decide), boxed_not_own HST.out.at_ hb3 (by decide) (by decide)⟩
      clear hS hwb hrw hk0 hdl HBX HB1a hb1 hb3 hV1 htw hp1
      gi_wp2_with fail
      refine ⟨trivial, ?_⟩
      refine (CallsIn.inRound l' (callsIn_wide.2 hcall)).mono ?_
      rintro e wc ⟨Ad', cd', Ak', ck', rfl, hst2⟩
      clear hcall
      have HB3c : Hid (Boxed wc B3 3 (.int .i64 many)) := hst2.but.heap HBDN.out.2 HB13.out.2.1
      have HB1c : Hid (Boxed wc B1 37 (.pointer (some ⟨b, 0, none⟩))) := hst2.but.heap HBDN.out.1 HB13.out.1
      have HST2 := Lib.hid hst2
      have h3c := HB3c.out.cell
      have h3f := HB3c.out.frozen
      have hmw : IntKind.wrap .i64 (many + 1) = many + 1 := by have := HVd.out.mn; have := HQ.out.2.2.2.2; rw [IntKind.wrap_i64]; omega
      clear g0 g1 g2 hst2
      gi_wp2
      have hstep : Step pv V _ wc b := HB13.out.2.2.trans HST2.out
      have hrn := HVd.out.rel.next (pv' := { p1 with Ad := Ad', cd := cd', Ak := Ak', ck := ck', ds := p1.ds ++ [(s, n)], K := (withO p1.K (s, n)).1 }) HVd.out.inv HQ.out.2.1 HQ.out.2.2.2.1 (by rw [← HP1.out, HQ.out.2.2.1]) (by rw [← HP1.out]) (by rw [← HP1.out, HQ.out.2.2.1]) (by rw [← HP1.out])
      have hil := HQ.out.2.2.2.2
      have hle : (q.W.eraseIdx i).length = q.W.length - 1 := by rw [List.length_eraseIdx, if_pos hil]
      have hdn := drain_some (k := q.W.length - 1) HQ.out.1 HQ.out.2.1
      rw [show q.W.length - 1 + 1 = q.W.length by omega] at hdn
      have hbw : But (fun k => k = B3) wc (wc.setCell ⟨B3, 0, none⟩ (.int .i64 (many + 1))) := (But.refl (fun k => k = B3) wc).setCell (p := ⟨B3, 0, none⟩) (.inl rfl) _
      refine ⟨⟨Nat.le_trans hstep.but.size hbw.size, fun k hk hx => (hbw.block k (Nat.lt_of_lt_of_le hk hstep.but.size) fun e => hx (.inr e)).trans (hstep.but.block k hk fun e => hx (.inl e))⟩, rfl, ?_, HMM.out, _, _, many + 1, ?_, ⟨?_, hrn.1, hrn.2, ?_, ?_, HB1c.out.other HVd.out.ne13 _, HB3c.out.set _, ⟨?_, ?_⟩, ⟨?_, ?_⟩, fun D hd => ⟨(HR.out.ds D hd).1, ?_⟩⟩⟩
      · exact Nat.le_trans HN2.out.2.2 (Nat.le_trans hstep.but.size hbw.size)
      · show (q.W.eraseIdx i).length < q.W.length
        omega
      · have hs := (HR.out.step.trans (Step.of HR.out.step.at_ HN2.out.1)).trans hstep
        exact ⟨hs.at_.box_set HB3c.out (by decide) (by decide) _, hs.but.setCell (p := ⟨B3, 0, none⟩) (.inr (by show _ ≤ B3; have := HBB.out; omega)) _, hs.own, hs.foot⟩
      · show (q.L ++ [o]).length + (q.W.eraseIdx i).length ≤ _
        have := HVd.out.len
        rw [List.length_append, hle]; simp; omega
      · rw [← HP1.out]; exact HVd.out.O
      · have := HVd.out.mn; omega
      · show many + 1 + ((q.W.eraseIdx i).length : Int) ≤ _
        have := HVd.out.mn
        rw [hle]; omega
      · show _ = (drain (q.W.eraseIdx i).length _).1
        rw [HVd.out.dr.1, hdn, hle]
      · show _ = many + 1 + (drain (q.W.eraseIdx i).length _).2
        rw [HVd.out.dr.2, hdn, hle]; simp only; omega
      · have hv := ((HR.out.up HN2.out.1).ds D hd).2
        have h1 := hstep.but.heap (mark_not_own (HR.out.up HN2.out.1).step.at_ hv) hv
        exact hbw.heap (fun e => by subst e; have h3 : wc.heap[D]? = _ := HB3c.out; rw [h1] at h3; cases h3) h1
    case done =>
      rintro D xs V hD ⟨rfl, hnone⟩ hb hdf
      have HV := Lib.hid (HR.out.up hb)
      have hn0 : q.W.findIdx? (ready q.K) = none := by rw [← HV.out.rel.idx HV.out.inv]; exact hnone
      have hdn := drain_none (k := q.W.length) hn0
      have HFIN : Hid (Rel pv (drain q0.W.length q0).1 ∧ many = (drain q0.W.length q0).2) := by
        refine ⟨?_, ?_⟩
        · rw [HV.out.dr.1, hdn]; exact HV.out.rel
        · rw [HV.out.dr.2, hdn]; simp
      have HND : Hid ((D :: Ds).Nodup) := List.nodup_cons.2 ⟨fun h => by have := HDL.out D h; omega, hnd⟩
      have h3c := HV.out.b3.cell
      have HDF := Lib.hid hdf
      have hDw : w0.heap.size ≤ D := by omega
      clear hseq hn0 hdn hnone hb hdf
      gi_wp2
      refine leaves_marks (fn := Try.f64) w0.heap.size (fun W => Step pv0 w0 pv W b) ?_ ?_ (D :: Ds) _ HND.out (fun E hE => ?_) HV.out.step
      · rintro W3 D3 hs h1 h2
        refine hs.grown (grownBy_putObj' W3 D3 _) (fun r e => by cases e; exact ⟨h1, _, h2, rfl⟩) (fun r e hm => ?_)
        cases e
        rw [HV.out.O.2] at hm
        have := HM.out _ hm
        have := HBB.out
        omega
      · rintro W3 hs
        refine ⟨.int .i64 many, ?_, pv, by rw [HFIN.out.2], HFIN.out.1, hs, HV.out.O.1⟩
        simp [results, Try.f64, go_sem]
      · rcases List.mem_cons.1 hE with rfl | hE
        · exact ⟨hDw, HDF.out⟩
        · exact HV.out.ds E hE
    case stop =>
      rintro D cd pre V hD hpre ⟨rfl, hsv, _, pv', q', many', hlt, hst⟩ hdf
      have HND : Hid ((D :: Ds).Nodup) := List.nodup_cons.2 ⟨fun h => by have := HDL.out D h; omega, hnd⟩
      have HDF := Lib.hid hdf
      have HST := Lib.hid hst
      have hLW := hst.lenW
      have HLT : Hid (lenW b V < lenW b W) := by show _ < _; rw [hLW, HLW.out]; exact hlt
      have hDw : w0.heap.size ≤ D := by omega
      clear hseq hdf hst hLW hlt hpre
      gi_wp2
      refine ⟨⟨pv', q', many', D :: Ds, _, _, _, _, _, _, _, _, _, _, _, _, _, _, _, _, _, _, _, _, _, _, _, rfl, HND.out, ⟨HST.out.step, HST.out.rel, HST.out.inv, HST.out.len, HST.out.O, HST.out.b1, HST.out.b3, HST.out.mn, HST.out.dr, fun E hE => ?_⟩⟩, HLT.out⟩
      rcases List.mem_cons.1 hE with rfl | hE
      · exact ⟨hDw, HDF.out⟩
      · exact HST.out.ds E hE

end Go.Proofs.Ytdffifkleaekhaa.O
