/-
  takeText.
-/
import Derived.Test.YtccjdajneoploaaTMath
namespace Go.Proofs.Ytccjdajneoploaa
open Go.RowKit Go.Shelf
attribute [local go_sem] Oper.semAt_some

theorem scope_wide {n : Nat} {P : Program} {c : Code} {Q : Exit → Act → World → Prop} {a : Act} {w : World} (h : c.wpIn Fence.wide n P (Exit.noGoto Q) a w) : (Code.scope c).wpIn Fence.wide n P Q a w := wpIn_wide.2 (wp_scope_straight (wpIn_wide.1 h))

/-- The blocks of the call, by number. -/
structure Blks (w : World) (B1 B2 B3 B4 B5 B6 : Nat) : Prop where
  e1 : B1 = w.heap.size + 1
  e2 : B2 = w.heap.size + 2
  e3 : B3 = w.heap.size + 3
  e4 : B4 = w.heap.size + 4
  e5 : B5 = w.heap.size + 5
  e6 : B6 = w.heap.size + 6
/-- What they hold: the string, the place, the three results, the text so far, its end; the marks. -/
structure TW (s : ByteArray) (w : World) (B1 B2 B3 B4 B5 B6 : Nat) (i e : Nat) (acc : List Nat) (Ds : List Nat) (W : World) : Prop where
  bs : Boxed W w.heap.size 9 (.string s)
  ba : Boxed W B1 3 (.int .i64 (i : Int))
  r1 : Boxed W B2 9 (.string ⟨#[]⟩)
  r2 : Boxed W B3 3 (.int .i64 0)
  r3 : Boxed W B4 4 (.bool false)
  tx : Outs w.heap.size B5 acc W
  be : Boxed W B6 3 (.int .i64 (e : Int))
  ds : ∀ D ∈ Ds, w.heap.size ≤ D ∧ W.heap[D]? = some (.deferred (some []))
  bel : Below w.heap.size w W
section
variable {s : ByteArray} {w : World} {B1 B2 B3 B4 B5 B6 i e : Nat} {acc Ds : List Nat} {W W' : World}
theorem boxed_keeps {X Y : World} {row : Option Nat} {B : Nat} {t : TypeId} {v : Value} (h : Boxed X B t v) (hg : X.grownBy Y row) (hr : ∀ r, row = some r → ∃ o : Obj, X.heap[r]? = some o ∧ o.isCells = false) : Boxed Y B t v :=
  boxed_own B t (fun _ : Unit => v) () X Y row h hg hr
theorem TW.grown (h : TW s w B1 B2 B3 B4 B5 B6 i e acc Ds W) {row : Option Nat} (hg : W.grownBy W' row) (hr : ∀ r, row = some r → ∃ o : Obj, W.heap[r]? = some o ∧ o.isCells = false) (hw : ∀ r, row = some r → w.heap.size ≤ r) (hD : ∀ D ∈ Ds, row ≠ some D) : TW s w B1 B2 B3 B4 B5 B6 i e acc Ds W' :=
  ⟨boxed_keeps h.bs hg hr, boxed_keeps h.ba hg hr, boxed_keeps h.r1 hg hr, boxed_keeps h.r2 hg hr, boxed_keeps h.r3 hg hr, outs_own w.heap.size B5 (fun _ : Unit => acc) () W W' row h.tx hg hr, boxed_keeps h.be hg hr,
    fun D hd => ⟨(h.ds D hd).1, (hg.block D (Array.getElem?_eq_some_iff.1 (h.ds D hd).2).1 (fun e => hD D hd e.symm)).trans (h.ds D hd).2⟩, h.bel.grown hg h.bel.size hw⟩
theorem TW.alloc (h : TW s w B1 B2 B3 B4 B5 B6 i e acc Ds W) (o : Obj) : TW s w B1 B2 B3 B4 B5 B6 i e acc Ds (W.alloc o) := h.grown (World.grownBy_alloc W o none) (by simp) (by simp) (by simp)
theorem TW.push (hb : Blks w B1 B2 B3 B4 B5 B6) {L : List Nat} (h : TW s w B1 B2 B3 B4 B5 B6 i e acc Ds W) (hp : Pushed W W' w.heap.size B5 L) : TW s w B1 B2 B3 B4 B5 B6 i e L Ds W' := by
  obtain ⟨e1, e2, e3, e4, e5, e6⟩ := hb
  exact ⟨hp.boxes _ _ _ (by omega) (by decide) h.bs, hp.boxes _ _ _ (by omega) (by decide) h.ba, hp.boxes _ _ _ (by omega) (by decide) h.r1, hp.boxes _ _ _ (by omega) (by decide) h.r2, hp.boxes _ _ _ (by omega) (by decide) h.r3, hp.outs, hp.boxes _ _ _ (by omega) (by decide) h.be,
    fun D hd => ⟨(h.ds D hd).1, hp.others.same D _ (h.ds D hd).2 rfl⟩, h.bel.trans hp.below⟩
theorem outs_set (h : Outs w.heap.size B5 acc W) {B : Nat} {t : TypeId} {v : Value} (hv : Boxed W B t v) (ht : t ≠ 5) (hne : B5 ≠ B) (u : Value) : Outs w.heap.size B5 acc (W.setCell ⟨B, 0, none⟩ u) := by
  obtain ⟨A, c, h1, h2⟩ := h
  refine ⟨A, c, h1.other hne u, h2.kept (grownBy_setCell' W B u) (fun k hk e' => ?_)⟩
  cases hk
  exact hv.not_row ht h2 e'.symm
theorem TW.setAt (hb : Blks w B1 B2 B3 B4 B5 B6) (h : TW s w B1 B2 B3 B4 B5 B6 i e acc Ds W) (j : Nat) : TW s w B1 B2 B3 B4 B5 B6 j e acc Ds (W.setCell ⟨B1, 0, none⟩ (.int .i64 (j : Int))) := by
  obtain ⟨e1, e2, e3, e4, e5, e6⟩ := hb
  exact ⟨h.bs.other (by omega) _, h.ba.set _, h.r1.other (by omega) _, h.r2.other (by omega) _, h.r3.other (by omega) _, outs_set h.tx h.ba (by decide) (by omega) _, h.be.other (by omega) _,
    fun D hd => ⟨(h.ds D hd).1, (KeepsOthers.setCell W _ _).same D _ (h.ds D hd).2 rfl⟩, h.bel.setCell (p := ⟨B1, 0, none⟩) (by show _ ≤ B1; omega) _⟩
theorem TW.setEnd (hb : Blks w B1 B2 B3 B4 B5 B6) (h : TW s w B1 B2 B3 B4 B5 B6 i e acc Ds W) (j : Nat) : TW s w B1 B2 B3 B4 B5 B6 i j acc Ds (W.setCell ⟨B6, 0, none⟩ (.int .i64 (j : Int))) := by
  obtain ⟨e1, e2, e3, e4, e5, e6⟩ := hb
  exact ⟨h.bs.other (by omega) _, h.ba.other (by omega) _, h.r1.other (by omega) _, h.r2.other (by omega) _, h.r3.other (by omega) _, outs_set h.tx h.be (by decide) (by omega) _, h.be.set _,
    fun D hd => ⟨(h.ds D hd).1, (KeepsOthers.setCell W _ _).same D _ (h.ds D hd).2 rfl⟩, h.bel.setCell (p := ⟨B6, 0, none⟩) (by show _ ≤ B6; omega) _⟩
theorem TW.setFail (hb : Blks w B1 B2 B3 B4 B5 B6) (h : TW s w B1 B2 B3 B4 B5 B6 i e acc Ds W) : TW s w B1 B2 B3 B4 B5 B6 i e acc Ds (((W.setCell ⟨B2, 0, none⟩ (.string ⟨#[]⟩)).setCell ⟨B3, 0, none⟩ (.int .i64 0)).setCell ⟨B4, 0, none⟩ (.bool false)) := by
  obtain ⟨e1, e2, e3, e4, e5, e6⟩ := hb
  exact ⟨((h.bs.other (by omega) _).other (by omega) _).other (by omega) _, ((h.ba.other (by omega) _).other (by omega) _).other (by omega) _, ((h.r1.set _).other (by omega) _).other (by omega) _, ((h.r2.other (by omega) _).set _).other (by omega) _, (((h.r3.other (by omega) _).other (by omega) _).set _),
    outs_set (outs_set (outs_set h.tx h.r1 (by decide) (by omega) _) (h.r2.other (by omega) _) (by decide) (by omega) _) ((h.r3.other (by omega) _).other (by omega) _) (by decide) (by omega) _, ((h.be.other (by omega) _).other (by omega) _).other (by omega) _,
    fun D hd => ⟨(h.ds D hd).1, ((KeepsOthers.setCell W _ _).trans ((KeepsOthers.setCell _ _ _).trans (KeepsOthers.setCell _ _ _))).same D _ (h.ds D hd).2 rfl⟩,
    ((h.bel.setCell (p := ⟨B2, 0, none⟩) (by show _ ≤ B2; omega) _).setCell (p := ⟨B3, 0, none⟩) (by show _ ≤ B3; omega) _).setCell (p := ⟨B4, 0, none⟩) (by show _ ≤ B4; omega) _⟩
end

/-- What holds while the loop over the iterator runs. -/
structure TJ (s : ByteArray) (w : World) (B1 B2 B3 B4 B5 B6 : Nat) (i : Nat) (acc Ds : List Nat) (Bi : Nat) (pre : List (Fin s.size)) (W : World) : Prop where
  tw : TW s w B1 B2 B3 B4 B5 B6 i 0 (acc ++ at_ s pre) Ds W
  it : Boxed W Bi 9 (.string s)
  nz : ∀ y ∈ pre, (s[y.val]'y.2).toNat ≠ 0
  ln : acc.length + pre.length ≤ 512
/-- How it may be left: at the text's end, at a fault, at a byte 00. -/
inductive TX (s : ByteArray) (w : World) (B1 B2 B3 B4 B5 B6 : Nat) (i : Nat) (acc Ds : List Nat) : Code → List (Fin s.size) → World → Prop
  | fin (q : List (Fin s.size)) (x : Fin s.size) (W : World) (hq : ∀ y ∈ q, (s[y.val]'y.2).toNat ≠ 0) (hl : acc.length + q.length ≤ 512) (hx : (s[x.val]'x.2).toNat = 0) (hn : (byt s)[x.val + 1]?.getD 0 = 1)
      (h : TW s w B1 B2 B3 B4 B5 B6 i (x.val + 2) (acc ++ at_ s q) Ds W) : TX s w B1 B2 B3 B4 B5 B6 i acc Ds (.exit 0) (q ++ [x]) W
  | bad (q : List (Fin s.size)) (x : Fin s.size) (W : World) (hq : ∀ y ∈ q, (s[y.val]'y.2).toNat ≠ 0) (hne : ¬ ((s[x.val]'x.2).toNat = 0 ∧ (byt s)[x.val + 1]?.getD 0 = 1)) (hb : acc.length + q.length = 512 ∨ ((s[x.val]'x.2).toNat = 0 ∧ (byt s)[x.val + 1]?.getD 0 ≠ 255))
      (h : TW s w B1 B2 B3 B4 B5 B6 i 0 (acc ++ at_ s q) Ds W) : TX s w B1 B2 B3 B4 B5 B6 i acc Ds .ret (q ++ [x]) W
  | on (q : List (Fin s.size)) (x : Fin s.size) (W : World) (hq : ∀ y ∈ q, (s[y.val]'y.2).toNat ≠ 0) (hl : acc.length + q.length < 512) (hx : (s[x.val]'x.2).toNat = 0) (hn : (byt s)[x.val + 1]?.getD 0 = 255)
      (h : TW s w B1 B2 B3 B4 B5 B6 (x.val + 2) 0 (acc ++ at_ s q ++ [0]) Ds W) : TX s w B1 B2 B3 B4 B5 B6 i acc Ds (.exit 1) (q ++ [x]) W
theorem tj_own (s : ByteArray) (w : World) (B1 B2 B3 B4 B5 B6 i : Nat) (acc Ds : List Nat) (Bi N : Nat) (hN : w.heap.size ≤ N) (hD : ∀ D ∈ Ds, D < N) : OwnFrom N (TJ s w B1 B2 B3 B4 B5 B6 i acc Ds Bi) := fun pre X Y row hs hg hr =>
  ⟨hs.tw.grown hg (fun r e => (hr r e).2) (fun r e => by have := (hr r e).1; omega) (fun D hd e => by have := (hr D e).1; have := hD D hd; omega), boxed_keeps hs.it hg (fun r e => (hr r e).2), hs.nz, hs.ln⟩
theorem tx_own (s : ByteArray) (w : World) (B1 B2 B3 B4 B5 B6 i : Nat) (acc Ds : List Nat) (N : Nat) (hN : w.heap.size ≤ N) (hD : ∀ D ∈ Ds, D < N) (cd : Code) : OwnFrom N (TX s w B1 B2 B3 B4 B5 B6 i acc Ds cd) := fun pre X Y row hs hg hr => by
  have key : ∀ {i' e' : Nat} {acc' : List Nat}, TW s w B1 B2 B3 B4 B5 B6 i' e' acc' Ds X → TW s w B1 B2 B3 B4 B5 B6 i' e' acc' Ds Y := fun h =>
    h.grown hg (fun r e => (hr r e).2) (fun r e => by have := (hr r e).1; omega) (fun D hd e => by have := (hr D e).1; have := hD D hd; omega)
  cases hs with
  | fin q x _ hq hl hx hn h => exact .fin q x _ hq hl hx hn (key h)
  | bad q x _ hq hne hb h => exact .bad q x _ hq hne hb (key h)
  | on q x _ hq hl hx hn h => exact .on q x _ hq hl hx hn (key h)

theorem leave32 (w : World) (B2 B3 B4 : Nat) (tmps : Array Value) (v1 v2 v3 r : Value) (h4 : tmps[4]?.getD undef = .pointer (some ⟨B2, 0, none⟩)) (h5 : tmps[5]?.getD undef = .pointer (some ⟨B3, 0, none⟩)) (h6 : tmps[6]?.getD undef = .pointer (some ⟨B4, 0, none⟩))
    (hr : r = .tuple #[v1, v2, v3]) (Ds : List Nat) (W : World) (hnd : Ds.Nodup) (hD : ∀ D ∈ Ds, w.heap.size ≤ D ∧ W.heap[D]? = some (.deferred (some []))) (b2 : Boxed W B2 9 v1) (b3 : Boxed W B3 3 v2) (b4 : Boxed W B4 4 v3) (hB : Below w.heap.size w W) :
    LeavesInM Fence.wide 20 Try.prog Try.f32 tmps (fun e w' => e = .returned r ∧ Below w.heap.size w w') (marks Ds) .returning W := by
  refine leaves_marks w.heap.size (fun W => Boxed W B2 9 v1 ∧ Boxed W B3 3 v2 ∧ Boxed W B4 4 v3 ∧ Below w.heap.size w W) ?_ ?_ Ds W hnd hD ⟨b2, b3, b4, hB⟩
  · rintro W D ⟨k2, k3, k4, kB⟩ h1 h2
    have hr : ∀ r, some D = some r → ∃ o : Obj, W.heap[r]? = some o ∧ o.isCells = false := fun r e => by cases e; exact ⟨_, h2, rfl⟩
    exact ⟨boxed_keeps k2 (grownBy_putObj' W D _) hr, boxed_keeps k3 (grownBy_putObj' W D _) hr, boxed_keeps k4 (grownBy_putObj' W D _) hr, kB.trans (belowK_b (w := w) (Nat.le_refl _) W D _ _ h1 h2 rfl rfl)⟩
  · rintro W ⟨k2, k3, k4, kB⟩
    refine ⟨r, ?_, rfl, kB⟩
    have t2 := k2.cell
    have t3 := k3.cell
    have t4 := k4.cell
    subst hr
    simp [results, Try.f32, go_sem, h4, h5, h6, t2, t3, t4]

/-- The loop's invariant and measure. -/
def atOf (B1 : Nat) (W : World) : Nat := match W.cell? ⟨B1, 0, none⟩ with
  | some (.int _ v) => v.toNat
  | _ => 0
def TI (s : ByteArray) (a : Nat) (w : World) (B1 B2 B3 B4 B5 B6 : Nat) (A : Act) (W : World) : Prop :=
  ∃ (i : Nat) (acc Ds : List Nat) (u9 u10 u11 u12 u13 u14 u15 u16 u17 u18 u19 u20 u21 u22 u23 u24 u25 u26 u27 u28 u29 u30 u31 u32 u33 u34 u35 u36 u37 u38 u39 u40 u41 u42 u43 u44 u45 u46 u47 u48 u49 u50 : Value), A = { tmps := #[.string s, .int .i64 (a : Int), .pointer (some ⟨w.heap.size, 0, none⟩), .pointer (some ⟨B1, 0, none⟩), .pointer (some ⟨B2, 0, none⟩), .pointer (some ⟨B3, 0, none⟩), .pointer (some ⟨B4, 0, none⟩), .pointer (some ⟨B5, 0, none⟩), .pointer (some ⟨B6, 0, none⟩), u9, u10, u11, u12, u13, u14, u15, u16, u17, u18, u19, u20, u21, u22, u23, u24, u25, u26, u27, u28, u29, u30, u31, u32, u33, u34, u35, u36, u37, u38, u39, u40, u41, u42, u43, u44, u45, u46, u47, u48, u49, u50], defers := marks Ds } ∧
    Ds.Nodup ∧ TW s w B1 B2 B3 B4 B5 B6 i 0 acc Ds W ∧ i ≤ s.size ∧ acc.length ≤ 512 ∧ M.untA acc i ((byt s).drop i) = M.txt s a ∧ (∀ y ∈ acc, y < 256)

set_option maxRecDepth 100000 in
set_option maxHeartbeats 2000000 in
theorem takeText_in (s : ByteArray) (a : Nat) (w : World) (hs : s.size ≤ 140737488355328) (ha : a ≤ s.size) :
    CallsIn Fence.wide 20 Try.prog 32 #[.string s, .int .i64 a] w fun e w' => e = .returned (txtR s a) ∧ Below w.heap.size w w' := by
  have hro : Fence.wide.round = none := rfl
  refine callsIn_of_wp_marks Try.func32 rfl trivial ?_ hro
  simp only [Try.ntmps32, List.size_toArray, List.length_cons, List.length_nil, Nat.reduceAdd, Nat.reduceSub, Array.replicate_succ, Array.replicate_zero, List.push_toArray, List.append_toArray, List.nil_append, List.cons_append]
  gi_wp2
  refine scope_wide ?_
  gi_wp2
  refine wpIn_label ?_
  gi_wp2
  have f0 := Boxed.new w 9 (.string s)
  have f1 := Boxed.new (w.alloc (.cells #[.string s] 9)) 3 (.int .i64 a)
  have f2 := Boxed.new ((w.alloc (.cells #[.string s] 9)).alloc (.cells #[.int .i64 a] 3)) 9 (.string ⟨#[]⟩)
  have f3 := Boxed.new (((w.alloc (.cells #[.string s] 9)).alloc (.cells #[.int .i64 a] 3)).alloc (.cells #[.string ⟨#[]⟩] 9)) 3 (.int .i64 0)
  have f4 := Boxed.new ((((w.alloc (.cells #[.string s] 9)).alloc (.cells #[.int .i64 a] 3)).alloc (.cells #[.string ⟨#[]⟩] 9)).alloc (.cells #[.int .i64 0] 3)) 4 (.bool false)
  have f5 := Boxed.new (((((w.alloc (.cells #[.string s] 9)).alloc (.cells #[.int .i64 a] 3)).alloc (.cells #[.string ⟨#[]⟩] 9)).alloc (.cells #[.int .i64 0] 3)).alloc (.cells #[.bool false] 4)) 42 (.slice none 0 0)
  have f6 := Boxed.new ((((((w.alloc (.cells #[.string s] 9)).alloc (.cells #[.int .i64 a] 3)).alloc (.cells #[.string ⟨#[]⟩] 9)).alloc (.cells #[.int .i64 0] 3)).alloc (.cells #[.bool false] 4)).alloc (.cells #[.slice none 0 0] 42)) 3 (.int .i64 0)
  simp only [World.size_alloc] at f1 f2 f3 f4 f5 f6
  have f0 := ((((((f0.alloc (.cells #[.int .i64 a] 3)).alloc (.cells #[.string ⟨#[]⟩] 9)).alloc (.cells #[.int .i64 0] 3)).alloc (.cells #[.bool false] 4)).alloc (.cells #[.slice none 0 0] 42)).alloc (.cells #[.int .i64 0] 3))
  have f1 := (((((f1.alloc (.cells #[.string ⟨#[]⟩] 9)).alloc (.cells #[.int .i64 0] 3)).alloc (.cells #[.bool false] 4)).alloc (.cells #[.slice none 0 0] 42)).alloc (.cells #[.int .i64 0] 3))
  have f2 := ((((f2.alloc (.cells #[.int .i64 0] 3)).alloc (.cells #[.bool false] 4)).alloc (.cells #[.slice none 0 0] 42)).alloc (.cells #[.int .i64 0] 3))
  have f3 := (((f3.alloc (.cells #[.bool false] 4)).alloc (.cells #[.slice none 0 0] 42)).alloc (.cells #[.int .i64 0] 3))
  have f4 := ((f4.alloc (.cells #[.slice none 0 0] 42)).alloc (.cells #[.int .i64 0] 3))
  have f5 := (f5.alloc (.cells #[.int .i64 0] 3))
  have hB0 : Below w.heap.size w (((((((w.alloc (.cells #[.string s] 9)).alloc (.cells #[.int .i64 a] 3)).alloc (.cells #[.string ⟨#[]⟩] 9)).alloc (.cells #[.int .i64 0] 3)).alloc (.cells #[.bool false] 4)).alloc (.cells #[.slice none 0 0] 42)).alloc (.cells #[.int .i64 0] 3)) :=
    (((((((Below.refl _ w).alloc (Nat.le_refl _) _).alloc (by simp) _).alloc (by simp; omega) _).alloc (by simp; omega) _).alloc (by simp; omega) _).alloc (by simp; omega) _).alloc (by simp; omega) _
  generalize (((((((w.alloc (.cells #[.string s] 9)).alloc (.cells #[.int .i64 a] 3)).alloc (.cells #[.string ⟨#[]⟩] 9)).alloc (.cells #[.int .i64 0] 3)).alloc (.cells #[.bool false] 4)).alloc (.cells #[.slice none 0 0] 42)).alloc (.cells #[.int .i64 0] 3)) = W0 at *
  generalize hB1 : w.heap.size + 1 = B1 at *
  generalize hB2 : B1 + 1 = B2 at *
  generalize hB3 : B2 + 1 = B3 at *
  generalize hB4 : B3 + 1 = B4 at *
  generalize hB5 : B4 + 1 = B5 at *
  generalize hB6 : B5 + 1 = B6 at *
  have HBK : Hid (Blks w B1 B2 B3 B4 B5 B6) := ⟨by omega, by omega, by omega, by omega, by omega, by omega⟩
  have HT0 : Hid (TW s w B1 B2 B3 B4 B5 B6 a 0 [] [] W0) := ⟨f0, f1, f2, f3, f4, ⟨none, 0, f5, Gr.nil _ _⟩, f6, by simp, hB0⟩
  clear hB1 hB2 hB3 hB4 hB5 hB6 f0 f1 f2 f3 f4 f5 f6 hB0
  refine wpIn_loop (TI s a w B1 B2 B3 B4 B5 B6) (fun _ W => s.size - atOf B1 W) ?start ?round
  case start => exact ⟨a, [], [], _, _, _, _, _, _, _, _, _, _, _, _, _, _, _, _, _, _, _, _, _, _, _, _, _, _, _, _, _, _, _, _, _, _, _, _, _, _, _, _, _, _, rfl, List.nodup_nil, HT0.out, ha, by simp, rfl, by simp⟩
  case round =>
    rintro _ W ⟨i, acc, Ds, u9, u10, u11, u12, u13, u14, u15, u16, u17, u18, u19, u20, u21, u22, u23, u24, u25, u26, u27, u28, u29, u30, u31, u32, u33, u34, u35, u36, u37, u38, u39, u40, u41, u42, u43, u44, u45, u46, u47, u48, u49, u50, rfl, hnd, hT, hi, hacc, hinv, hac⟩
    have hat : atOf B1 W = i := by unfold atOf; rw [hT.ba.cell]; simp
    have cs := hT.bs.cell
    have ca := hT.ba.cell
    have hWs := hT.bel.size
    have HT := Lib.hid hT
    have HINV := Lib.hid hinv
    have HAT := Lib.hid hat
    have HAC := Lib.hid hac
    clear hT hinv hat hac
    gi_wp2_with (refine ⟨trivial, ?_⟩; gi_at_call 30; refine (bytesFrom_in Fence.wide 19 trivial hro _ _ _).mono ?_; rintro e w' ⟨rfl, rfl⟩)
    have HTR := Lib.hid ((HT.out.alloc (.cells #[.string s] 9)).alloc (.cells #[.int .i64 i] 3))
    have hbi := (Boxed.new W 9 (.string s)).alloc (.cells #[.int .i64 i] 3)
    have hba := Boxed.new (W.alloc (.cells #[.string s] 9)) 3 (.int .i64 i)
    rw [World.size_alloc] at hba
    have hsz : ((W.alloc (.cells #[.string s] 9)).alloc (.cells #[.int .i64 i] 3)).heap.size = W.heap.size + 2 := by simp
    have hDl : ∀ D ∈ Ds, D < W.heap.size + 2 := fun D hd => by have := (Array.getElem?_eq_some_iff.1 (HT.out.ds D hd).2).1; omega
    generalize ((W.alloc (.cells #[.string s] 9)).alloc (.cells #[.int .i64 i] 3)) = WR at *
    obtain ⟨N, hN⟩ : ∃ N, W.heap.size = N := ⟨_, rfl⟩
    rw [hN] at hbi hba hsz hDl hWs
    simp only [hN]
    have HSZ := Lib.hid hsz
    have HDL := Lib.hid hDl
    have HN := Lib.hid hN
    have HT5 : Hid (B6 < N) := by show _ < _; rw [← hN]; exact HT.out.be.lt
    clear cs ca hsz hDl hN
    refine wpIn_rangeFunc_ownF hro (by decide) (gf := 35) (lb := #[.pointer (some ⟨N + 1, 0, none⟩), .pointer (some ⟨N, 0, none⟩)]) rfl trivial (enters_of Try.func35 (by kernel_rfl) rfl)
      (bytes_stops Fence.wide 19 trivial hro (by decide) (N + 1) N i (s.size - i) s hs (by omega) WR (by have := HSZ.out; omega) (by have := HSZ.out; omega) hba.cell hbi.cell) KeepCells.trans (KeepCells.putObj (by have := HSZ.out; rintro p h; omega)) (Below.refl _ _) (fun _ => rfl)
      (TJ s w B1 B2 B3 B4 B5 B6 i acc Ds N) (TX s w B1 B2 B3 B4 B5 B6 i acc Ds)
      (tj_own s w B1 B2 B3 B4 B5 B6 i acc Ds N _ (by have := HSZ.out; omega) (by rw [HSZ.out]; exact HDL.out))
      (tx_own s w B1 B2 B3 B4 B5 B6 i acc Ds _ (by have := HSZ.out; omega) (by rw [HSZ.out]; exact HDL.out))
      ⟨by have := HTR.out; simpa [at_] using this, hbi, by simp, by simpa using hacc⟩
      (fun x => { tmps := #[.string s, .int .i64 (a : Int), .pointer (some ⟨w.heap.size, 0, none⟩), .pointer (some ⟨B1, 0, none⟩), .pointer (some ⟨B2, 0, none⟩), .pointer (some ⟨B3, 0, none⟩), .pointer (some ⟨B4, 0, none⟩), .pointer (some ⟨B5, 0, none⟩), .pointer (some ⟨B6, 0, none⟩), .int .i64 ((x.val : Nat) : Int), .int .u8 (((s[x.val]'x.2).toNat : Nat) : Int), u11, .string s, .int .i64 i, .func (.func 35) #[] #[.pointer (some ⟨N + 1, 0, none⟩), .pointer (some ⟨N, 0, none⟩)], .int .i64 ((x.val : Nat) : Int), .int .u8 (((s[x.val]'x.2).toNat : Nat) : Int), u17, u18, u19, u20, u21, u22, u23, u24, u25, u26, u27, u28, u29, u30, u31, u32, u33, u34, u35, u36, u37, u38, u39, u40, u41, u42, u43, u44, u45, u46, u47, u48, u49, u50], defers := [] }) ?assign ?body ?done ?stop
    case assign =>
      intro y x W K hK
      unfold yv
      gi_wp2
      exact hK
    case body =>
      rintro y pre x W2 hJ hlt
      clear hba hbi HTR HT HINV HAT
      have HJ := Lib.hid hJ
      obtain ⟨A2, c2, hv, hg⟩ := hJ.tw.tx
      have cs := hJ.tw.bs.cell
      have ca := hJ.tw.ba.cell
      have ce := hJ.tw.be.cell
      have fe := hJ.tw.be.frozen
      have cv := hv.cell
      have c2' := hJ.tw.r1.cell
      have f2' := hJ.tw.r1.frozen
      have c3' := hJ.tw.r2.cell
      have f3' := hJ.tw.r2.frozen
      have c4' := hJ.tw.r3.cell
      have f4' := hJ.tw.r3.frozen
      have hbk := HBK.out
      have g3 : ∀ v, (W2.setCell ⟨B2, 0, none⟩ v).cell? ⟨B3, 0, none⟩ = some (.int .i64 0) := fun v => (hJ.tw.r2.other (by have := hbk.e2; have := hbk.e3; omega) v).cell
      have g4 : ∀ v v', ((W2.setCell ⟨B2, 0, none⟩ v).setCell ⟨B3, 0, none⟩ v').cell? ⟨B4, 0, none⟩ = some (.bool false) := fun v v' => ((hJ.tw.r3.other (by have := hbk.e2; have := hbk.e4; omega) v).other (by have := hbk.e3; have := hbk.e4; omega) v').cell
      have hWs2 : w.heap.size ≤ W2.heap.size := hJ.tw.bel.size
      have hln := hJ.ln
      have hxb : (s[x.val]'x.2).toNat < 256 := (s[x.val]'x.2).toNat_lt
      have HA : Hid (at_ s (pre ++ [x]) = at_ s pre ++ [(s[x.val]'x.2).toNat]) := at_snoc s pre x
      have hx2 := x.2
      obtain ⟨L, hL⟩ : ∃ L, acc ++ at_ s pre = L := ⟨_, rfl⟩
      have hLl : L.length = acc.length + pre.length := by rw [← hL, List.length_append, at_length]
      have hL5 : L.length ≤ 512 := by omega
      rw [hL] at hv hg cv
      obtain ⟨nx, hnx⟩ : ∃ nx, (byt s)[x.val + 1]?.getD 0 = nx := ⟨_, rfl⟩
      have hbyte := fun W => byteAt_any s (x.val + 1) W
      rw [show ((x.val + 1 : Nat) : Int) = (x.val : Int) + 1 by omega] at hbyte
      simp only [hnx] at hbyte
      have HNX := Lib.hid hnx
      have HL := Lib.hid hL
      have HLL := Lib.hid hLl
      obtain ⟨A3, c3, w3, hrun3, cc3, cf3, hv3, hg3, hp3⟩ := push hv hg hWs2 (by have := hbk.e5; omega) (s[x.val]'x.2).toNat hxb (by omega)
      have hb1 := hp3.boxes _ _ _ (by have := hbk.e1; have := hbk.e5; omega) (by decide) hJ.tw.ba
      have ca3 := hb1.cell
      have fa3 := hb1.frozen
      have HP3 := Lib.hid hp3
      clear hv3 hg3 hp3 hb1 hnx hL hLl hv hg hJ hbk hln
      generalize hxe : (s[x.val]'x.2).toNat = z at *
      have HRUN3 := Lib.hid hrun3
      have HXE := Lib.hid hxe
      clear hrun3 hxe
      by_cases hz : z = 0
      · subst hz
        by_cases hn1 : nx = 1
        · subst hn1
          gi_wp2_with (refine ⟨trivial, ?_⟩; gi_at_call 36; refine (CallsIn.inRound y (callsIn_wide.2 (hbyte _))).mono ?_; rintro e W1 ⟨rfl, rfl⟩)
          have hS := TW.setEnd HBK.out HJ.out.tw (x.val + 2)
          rw [show ((x.val + 2 : Nat) : Int) = (x.val : Int) + 2 by omega] at hS
          exact ⟨KeepsOthers.setCell _ _ _, .fin pre x _ HJ.out.nz HJ.out.ln HXE.out HNX.out hS⟩
        · have hnb : ((nx : Int) == 1) = false := by simp; omega
          by_cases h5 : L.length = 512
          · have h5b : ((L.length : Int) == 512) = true := by simp; omega
            have H5 := Lib.hid h5
            have HN1 := Lib.hid hn1
            clear h5 hn1
            gi_wp2_with (refine ⟨trivial, ?_⟩; gi_at_call 36; refine (CallsIn.inRound y (callsIn_wide.2 (hbyte _))).mono ?_; rintro e W1 ⟨rfl, rfl⟩)
            exact ⟨(KeepsOthers.setCell _ _ _).trans ((KeepsOthers.setCell _ _ _).trans (KeepsOthers.setCell _ _ _)), .bad pre x _ HJ.out.nz (fun h => HN1.out (HNX.out.symm.trans h.2)) (.inl (by have := HLL.out; have := H5.out; omega)) (TW.setFail HBK.out HJ.out.tw)⟩
          · have h5b : ((L.length : Int) == 512) = false := by simp; omega
            by_cases hn2 : nx = 255
            · subst hn2
              gi_wp2_with (first | (refine ⟨trivial, ?_⟩; gi_at_call 36; refine (CallsIn.inRound y (callsIn_wide.2 (hbyte _))).mono ?_; rintro e W1 ⟨rfl, rfl⟩) | (gi_at_builtin; refine wpListIn_append_run rfl _ _ _ _ rfl _ _ rfl rfl HRUN3.out ?_; clear HRUN3))
              have hS := TW.setAt HBK.out (TW.push HBK.out HJ.out.tw HP3.out) (x.val + 2)
              rw [show ((x.val + 2 : Nat) : Int) = (x.val : Int) + 2 by omega] at hS
              exact ⟨HP3.out.others.trans (KeepsOthers.setCell _ _ _), .on pre x _ HJ.out.nz (by have := HLL.out; omega) HXE.out HNX.out (by rw [HL.out]; exact hS)⟩
            · have hnc : ((nx : Int) == 255) = false := by simp; omega
              have HN1 := Lib.hid hn1
              have HN2 := Lib.hid hn2
              clear hn1 hn2
              gi_wp2_with (refine ⟨trivial, ?_⟩; gi_at_call 36; refine (CallsIn.inRound y (callsIn_wide.2 (hbyte _))).mono ?_; rintro e W1 ⟨rfl, rfl⟩)
              exact ⟨(KeepsOthers.setCell _ _ _).trans ((KeepsOthers.setCell _ _ _).trans (KeepsOthers.setCell _ _ _)), .bad pre x _ HJ.out.nz (fun h => HN1.out (HNX.out.symm.trans h.2)) (.inr ⟨HXE.out, fun h => HN2.out (HNX.out.symm.trans h)⟩) (TW.setFail HBK.out HJ.out.tw)⟩
      · have hzb : ((z : Int) == 0) = false := by simp; omega
        have HZ := Lib.hid hz
        by_cases h5 : L.length = 512
        · have h5b : ((L.length : Int) == 512) = true := by simp; omega
          have H5 := Lib.hid h5
          clear h5 hz
          gi_wp2_with (refine ⟨trivial, ?_⟩; gi_at_call 36; refine (CallsIn.inRound y (callsIn_wide.2 (hbyte _))).mono ?_; rintro e W1 ⟨rfl, rfl⟩)
          exact ⟨(KeepsOthers.setCell _ _ _).trans ((KeepsOthers.setCell _ _ _).trans (KeepsOthers.setCell _ _ _)), .bad pre x _ HJ.out.nz (fun h => HZ.out (HXE.out.symm.trans h.1)) (.inl (by have := HLL.out; have := H5.out; omega)) (TW.setFail HBK.out HJ.out.tw)⟩
        · have h5b : ((L.length : Int) == 512) = false := by simp; omega
          gi_wp2_with (first | (refine ⟨trivial, ?_⟩; gi_at_call 36; refine (CallsIn.inRound y (callsIn_wide.2 (hbyte _))).mono ?_; rintro e W1 ⟨rfl, rfl⟩) | (gi_at_builtin; refine wpListIn_append_run rfl _ _ _ _ rfl _ _ rfl rfl HRUN3.out ?_; clear HRUN3))
          have hbox := HP3.out.boxes _ _ _ (by have := HBK.out.e5; have := HBK.out.e6; have := HT5.out; omega) (by decide) HJ.out.it
          refine ⟨HP3.out.others, ?_, ⟨?_, hbox, ?_, ?_⟩⟩
          · intro p hp
            exact World.cell?_of_block (by rw [show p.block = N from hp]; exact hbox.trans (show W2.heap[_]? = _ from HJ.out.it).symm)
          · rw [HA.out, ← List.append_assoc, HL.out]; exact TW.push HBK.out HJ.out.tw HP3.out
          · intro v hv
            rcases List.mem_append.1 hv with h | h
            · exact HJ.out.nz v h
            · rw [List.mem_singleton.1 h, HXE.out]; exact HZ.out
          · have := HLL.out
            rw [List.length_append, List.length_singleton]; omega
    case done =>
      rintro D ys W2 hD hys hJ hK
      have HR : Hid (txtR s a = badT) := txtR_bad (by rw [← HINV.out, txt_out s i (s.size - i) (by omega) acc ys hys hJ.nz]; simp)
      have HF := Lib.hid (TW.setFail HBK.out hJ.tw)
      have HND : Hid ((D :: Ds).Nodup) := List.nodup_cons.2 ⟨fun h => by have := HDL.out D h; have := HSZ.out; omega, hnd⟩
      have c2' := hJ.tw.r1.cell
      have f2' := hJ.tw.r1.frozen
      have c3' := hJ.tw.r2.cell
      have f3' := hJ.tw.r2.frozen
      have c4' := hJ.tw.r3.cell
      have f4' := hJ.tw.r3.frozen
      have hbk := HBK.out
      have g3 : ∀ v, (W2.setCell ⟨B2, 0, none⟩ v).cell? ⟨B3, 0, none⟩ = some (.int .i64 0) := fun v => (hJ.tw.r2.other (by have := hbk.e2; have := hbk.e3; omega) v).cell
      have g4 : ∀ v v', ((W2.setCell ⟨B2, 0, none⟩ v).setCell ⟨B3, 0, none⟩ v').cell? ⟨B4, 0, none⟩ = some (.bool false) := fun v v' => ((hJ.tw.r3.other (by have := hbk.e2; have := hbk.e4; omega) v).other (by have := hbk.e3; have := hbk.e4; omega) v').cell
      have HKK : Hid ((((W2.setCell ⟨B2, 0, none⟩ (.string ⟨#[]⟩)).setCell ⟨B3, 0, none⟩ (.int .i64 0)).setCell ⟨B4, 0, none⟩ (.bool false)).heap[D]? = some (.deferred (some []))) := ((KeepsOthers.setCell _ _ _).trans ((KeepsOthers.setCell _ _ _).trans (KeepsOthers.setCell _ _ _))).same D _ hK rfl
      clear hJ hbk hys hK hba hbi
      gi_wp2
      refine leave32 w B2 B3 B4 _ _ _ _ _ rfl rfl rfl HR.out (D :: Ds) _ HND.out (fun E hE => ?_) HF.out.r1 HF.out.r2 HF.out.r3 HF.out.bel
      rcases List.mem_cons.1 hE with rfl | hE
      · exact ⟨by have := HSZ.out; omega, HKK.out⟩
      · exact HF.out.ds E hE
    case stop =>
      rintro D cd pre W2 hD hpre hX hK
      have HND : Hid ((D :: Ds).Nodup) := List.nodup_cons.2 ⟨fun h => by have := HDL.out D h; have := HSZ.out; omega, hnd⟩
      have hDw : w.heap.size ≤ D := by have := HSZ.out; omega
      cases hX with
      | fin q x _ hq hl hx hn h =>
        have htx := txt_end s i (s.size - i) (by omega) acc q x hpre hq hx hn
        rw [HINV.out] at htx
        have HR := Lib.hid (txtR_some htx (by rw [List.length_append, at_length]; exact hl))
        have hLs : ∀ y ∈ acc ++ at_ s q, y < 256 := fun y hy => by
          rcases List.mem_append.1 hy with h | h
          · exact HAC.out y h
          · obtain ⟨z, _, rfl⟩ := List.mem_map.1 h
            exact (s[z.val]'z.2).toNat_lt
        obtain ⟨L, hL⟩ : ∃ L, acc ++ at_ s q = L := ⟨_, rfl⟩
        rw [hL] at HR hLs h
        obtain ⟨A2, c2, hv, hg⟩ := h.tx
        have hst := run_str A2 c2 L W2.drew _ ((hg.row hLs).keep (w' := W2.drew) (fun _ _ => rfl))
        obtain ⟨T, hT⟩ : ∃ T, strB L = T := ⟨_, rfl⟩
        rw [hT] at hst HR
        have e2 : ((x.val + 2 : Nat) : Int) = (x.val : Int) + 2 := by omega
        have hbe := h.be
        rw [e2] at hbe HR
        have cv := hv.cell
        have ce := hbe.cell
        have c2' := h.r1.cell
        have f2' := h.r1.frozen
        have c3' := h.r2.cell
        have f3' := h.r2.frozen
        have c4' := h.r3.cell
        have f4' := h.r3.frozen
        have hbk := HBK.out
        have g3 : ∀ v, (W2.setCell ⟨B2, 0, none⟩ v).cell? ⟨B3, 0, none⟩ = some (.int .i64 0) := fun v => (h.r2.other (by have := hbk.e2; have := hbk.e3; omega) v).cell
        have g4 : ∀ v v', ((W2.setCell ⟨B2, 0, none⟩ v).setCell ⟨B3, 0, none⟩ v').cell? ⟨B4, 0, none⟩ = some (.bool false) := fun v v' => ((h.r3.other (by have := hbk.e2; have := hbk.e4; omega) v).other (by have := hbk.e3; have := hbk.e4; omega) v').cell
        have g6 : ∀ v, (W2.setCell ⟨B2, 0, none⟩ v).cell? ⟨B6, 0, none⟩ = some (.int .i64 ((x.val : Int) + 2)) := fun v => (hbe.other (by have := hbk.e2; have := hbk.e6; omega) v).cell
        have HH := Lib.hid h
        clear hba hbi hx hn htx hq hpre h hv hg hbe hbk e2 hT hL hLs
        gi_wp2
        refine wpIn_wide.2 ?_
        have HF : Hid (Boxed (((W2.setCell ⟨B2, 0, none⟩ (.string T)).setCell ⟨B3, 0, none⟩ (.int .i64 ((x.val : Int) + 2))).setCell ⟨B4, 0, none⟩ (.bool true)).drew B2 9 (.string T) ∧ Boxed (((W2.setCell ⟨B2, 0, none⟩ (.string T)).setCell ⟨B3, 0, none⟩ (.int .i64 ((x.val : Int) + 2))).setCell ⟨B4, 0, none⟩ (.bool true)).drew B3 3 (.int .i64 ((x.val : Int) + 2)) ∧
            Boxed (((W2.setCell ⟨B2, 0, none⟩ (.string T)).setCell ⟨B3, 0, none⟩ (.int .i64 ((x.val : Int) + 2))).setCell ⟨B4, 0, none⟩ (.bool true)).drew B4 4 (.bool true) ∧ Below w.heap.size w (((W2.setCell ⟨B2, 0, none⟩ (.string T)).setCell ⟨B3, 0, none⟩ (.int .i64 ((x.val : Int) + 2))).setCell ⟨B4, 0, none⟩ (.bool true)).drew ∧
            ∀ (E : Nat) (o : Obj), W2.heap[E]? = some o → o.isCells = false → (((W2.setCell ⟨B2, 0, none⟩ (.string T)).setCell ⟨B3, 0, none⟩ (.int .i64 ((x.val : Int) + 2))).setCell ⟨B4, 0, none⟩ (.bool true)).drew.heap[E]? = some o) := by
          obtain ⟨e1, e2, e3, e4, e5, e6⟩ := HBK.out
          have h := HH.out
          exact ⟨((h.r1.set _).other (by omega) _).other (by omega) _, ((h.r2.other (by omega) _).set _).other (by omega) _, ((h.r3.other (by omega) _).other (by omega) _).set _,
            (((h.bel.setCell (p := ⟨B2, 0, none⟩) (by show _ ≤ B2; omega) _).setCell (p := ⟨B3, 0, none⟩) (by show _ ≤ B3; omega) _).setCell (p := ⟨B4, 0, none⟩) (by show _ ≤ B4; omega) _).drew,
            fun E o hE ho => ((KeepsOthers.setCell W2 ⟨B2, 0, none⟩ (.string T)).trans ((KeepsOthers.setCell _ ⟨B3, 0, none⟩ (.int .i64 ((x.val : Int) + 2))).trans (KeepsOthers.setCell _ ⟨B4, 0, none⟩ (.bool true)))).same E o hE ho⟩
        go_region
        generalize (((W2.setCell ⟨B2, 0, none⟩ (.string T)).setCell ⟨B3, 0, none⟩ (.int .i64 ((x.val : Int) + 2))).setCell ⟨B4, 0, none⟩ (.bool true)).drew = W4 at *
        clear cv ce c2' f2' c3' f3' c4' f4' g3 g4 g6 hst
        gi_wp2
        refine leave32 w B2 B3 B4 _ _ _ _ _ rfl rfl rfl HR.out (D :: Ds) _ HND.out (fun E hE => ?_) HF.out.1 HF.out.2.1 HF.out.2.2.1 HF.out.2.2.2.1
        rcases List.mem_cons.1 hE with rfl | hE
        · exact ⟨hDw, HF.out.2.2.2.2 _ _ hK rfl⟩
        · exact ⟨(HH.out.ds E hE).1, HF.out.2.2.2.2 _ _ (HH.out.ds E hE).2 rfl⟩
      | bad q x _ hq hne hb h =>
        have HR : Hid (txtR s a = badT) := txtR_bad (by rw [← HINV.out]; exact txt_bad s i (s.size - i) (by omega) acc q x hpre hq hne hb)
        refine wpIn_ret ?_
        refine leave32 w B2 B3 B4 _ _ _ _ _ rfl rfl rfl HR.out (D :: Ds) _ HND.out (fun E hE => ?_) h.r1 h.r2 h.r3 h.bel
        rcases List.mem_cons.1 hE with rfl | hE
        · exact ⟨hDw, hK⟩
        · exact h.ds E hE
      | on q x _ hq hl hx hn h =>
        obtain ⟨g1, g2, g3⟩ := txt_next s i (s.size - i) (by omega) acc q x hpre hq hx hn
        have e2 : atOf B1 W2 = x.val + 2 := by
          unfold atOf; rw [h.ba.cell]; simp; omega
        have HH := Lib.hid h
        have HG3 := Lib.hid g3
        have HE2 := Lib.hid e2
        have HKK := Lib.hid hK
        have hlen : (acc ++ at_ s q ++ [0]).length ≤ 512 := by simp [at_length]; omega
        have HLEN := Lib.hid hlen
        clear hba hbi h g3 e2 hK hx hn hq hpre hlen
        gi_wp2
        refine ⟨⟨x.val + 2, acc ++ at_ s q ++ [0], D :: Ds, _, _, _, _, _, _, _, _, _, _, _, _, _, _, _, _, _, _, _, _, _, _, _, _, _, _, _, _, _, _, _, _, _, _, _, _, _, _, _, _, _, _, rfl, HND.out, ?_, g1, HLEN.out, HG3.out.trans HINV.out, ?_⟩, ?_⟩
        · exact ⟨HH.out.bs, HH.out.ba, HH.out.r1, HH.out.r2, HH.out.r3, HH.out.tx, HH.out.be, fun E hE => by
            rcases List.mem_cons.1 hE with rfl | hE
            · exact ⟨hDw, HKK.out⟩
            · exact HH.out.ds E hE, HH.out.bel⟩
        · intro y hy
          rcases List.mem_append.1 hy with h | h
          · rcases List.mem_append.1 h with h | h
            · exact HAC.out y h
            · obtain ⟨z, _, rfl⟩ := List.mem_map.1 h
              exact (s[z.val]'z.2).toNat_lt
          · rw [List.mem_singleton.1 h]; decide
        · have := HAT.out
          have := HE2.out
          omega

theorem takeText_any (s : ByteArray) (a : Nat) (w : World) (hs : s.size ≤ 140737488355328) (ha : a ≤ s.size) :
    Calls Try.prog 32 #[.string s, .int .i64 a] w fun e w' => e = .returned (txtR s a) ∧ Below w.heap.size w w' := callsIn_wide.1 (takeText_in s a w hs ha)
end Go.Proofs.Ytccjdajneoploaa
