/-
  The program's TakeOwn.
-/
import Derived.Test.YtflghlmikpfnpaaDoorRefOwn
import Derived.Scope
import Derived.OrdersHeld
namespace Go.Proofs.YtflghlmikpfnpaaDoor
open Go.RowKit Go.Shelf
attribute [local go_sem] Oper.semAt_some

set_option maxRecDepth 100000 in
theorem scope_wide {n : Nat} {P : Program} {c : Code} {Q : Exit → Act → World → Prop} {a : Act} {w : World} (h : c.wpIn Fence.wide n P (Exit.noGoto Q) a w) : (Code.scope c).wpIn Fence.wide n P Q a w := wpIn_wide.2 (wp_scope_straight (wpIn_wide.1 h))

set_option maxRecDepth 100000 in
/-- A region that draws its order inside a round, at the wide fence, by what holds in every world that is met. -/
theorem region_heldIn {y n : Nat} {P : Program} {Q : Exit → Act → World → Prop} {id : Nat} {a : Act} {w : World} {l : List Oper} (S : World → Prop) (hm : P.follows .mixedOrders = true)
    (hd : (l.all fun o => match o.op with | .defer _ => false | _ => true) = true) (hq : ∀ a w, ¬ Q .outgrown a w)
    (h : wpAnyH P .any l.toArray Q S l.length (Array.replicate l.length false) a w.drew) : (Code.region id l.toArray true).wpIn (Fence.wide.inRound y) n P Q a w :=
  wpIn_region_any hm (anyIn_of (noDefers l hd) hq _ _ _ _ (by simpa using wpAny_of_held _ _ _ _ h))

set_option maxRecDepth 100000 in
theorem cell_far {W : World} {B C : Nat} {u v : Value} (hne : B ≠ C) (h : W.cell? ⟨C, 0, none⟩ = some u) : (W.setCell ⟨B, 0, none⟩ v).cell? ⟨C, 0, none⟩ = some u :=
  (World.cell?_setCell_other _ _ _ _ (fun e => by injection e; omega)).trans h

/-- What the scan keeps: the blocks of the call, by number. -/
structure Scan (A : Option Addr) (l : List Nat) (c a R G B1 B2 B3 B4 B5 B6 : Nat) (pre : List (Fin 2)) (W : World) : Prop where
  zeros : ∀ y ∈ pre, y.val = 0
  size : Boxed W B6 3 (.int .i64 ((1 + 2 * pre.length : Nat) : Int))
  r1 : Boxed W B2 51 (.int .u64 0)
  r2 : Boxed W B3 3 (.int .i64 0)
  r3 : Boxed W B4 26 (.int .i64 0)
  row : Boxed W G 38 (.slice A l.length c)
  at_ : Boxed W B1 3 (.int .i64 a)
  room : Boxed W B5 3 (.int .i64 R)
/-- How the scan may have been left: at a break, at a return. -/
def Fails (l : List Nat) (a R B2 B3 B4 : Nat) (pre : List (Fin 2)) (W : World) : Prop :=
  ∃ (q : List (Fin 2)) (y : Fin 2), pre = q ++ [y] ∧ (∀ v ∈ q, v.val = 0) ∧ (R < 1 + 2 * q.length ∨ (y.val = 1 ∧ 1 + 2 * q.length ≤ R ∧ 4611686018427387904 < M.num l (a + q.length) (q.length + 1))) ∧
    Boxed W B2 51 (.int .u64 0) ∧ Boxed W B3 3 (.int .i64 0) ∧ Boxed W B4 26 (.int .i64 0)
def Finds (l : List Nat) (a R B2 B3 B4 : Nat) (pre : List (Fin 2)) (W : World) : Prop :=
  ∃ (q : List (Fin 2)) (y : Fin 2), pre = q ++ [y] ∧ (∀ v ∈ q, v.val = 0) ∧ y.val = 1 ∧ 1 + 2 * q.length ≤ R ∧ M.num l (a + q.length) (q.length + 1) ≤ 4611686018427387904 ∧
    Boxed W B2 51 (.int .u64 (IntKind.u64.wrap (((M.num l (a + q.length) (q.length + 1) : Nat) : Int) - 1))) ∧ Boxed W B3 3 (.int .i64 ((a + (1 + 2 * q.length) : Nat) : Int)) ∧ Boxed W B4 26 (.int .i64 0)
def Left (l : List Nat) (a R B2 B3 B4 : Nat) (cd : Code) (pre : List (Fin 2)) (W : World) : Prop :=
  (cd = .exit 0 ∧ Fails l a R B2 B3 B4 pre W) ∨ (cd = .ret ∧ Finds l a R B2 B3 B4 pre W)

set_option maxRecDepth 100000 in
theorem boxed_keeps {X Y : World} {row : Option Nat} {B : Nat} {t : TypeId} {v : Value} (h : Boxed X B t v) (hg : X.grownBy Y row) (hr : ∀ r, row = some r → ∃ o : Obj, X.heap[r]? = some o ∧ o.isCells = false) : Boxed Y B t v :=
  boxed_own B t (fun _ : Unit => v) () X Y row h hg hr

set_option maxRecDepth 100000 in
theorem scan_own (A : Option Addr) (l : List Nat) (c a R G B1 B2 B3 B4 B5 B6 : Nat) : Own (Scan A l c a R G B1 B2 B3 B4 B5 B6) := fun _ _ _ _ hs hg hr =>
  ⟨hs.zeros, boxed_keeps hs.size hg hr, boxed_keeps hs.r1 hg hr, boxed_keeps hs.r2 hg hr, boxed_keeps hs.r3 hg hr, boxed_keeps hs.row hg hr, boxed_keeps hs.at_ hg hr, boxed_keeps hs.room hg hr⟩
set_option maxRecDepth 100000 in
theorem left_own (l : List Nat) (a R B2 B3 B4 : Nat) (cd : Code) : Own (Left l a R B2 B3 B4 cd) := fun _ _ _ _ hs hg hr => by
  rcases hs with ⟨hc, q, y, e, hq, h, r1, r2, r3⟩ | ⟨hc, q, y, e, hq, h1, h2, h3, r1, r2, r3⟩
  · exact .inl ⟨hc, q, y, e, hq, h, boxed_keeps r1 hg hr, boxed_keeps r2 hg hr, boxed_keeps r3 hg hr⟩
  · exact .inr ⟨hc, q, y, e, hq, h1, h2, h3, boxed_keeps r1 hg hr, boxed_keeps r2 hg hr, boxed_keeps r3 hg hr⟩

set_option maxRecDepth 100000 in
theorem keepsOthers_below {W W' : World} (h : Below W.heap.size W W') : KeepsOthers W W' := ⟨h.size, fun k _ hk _ => (h.block k (Array.getElem?_eq_some_iff.1 hk).1).trans hk⟩

set_option maxRecDepth 100000 in
set_option maxHeartbeats 2000000 in
theorem takeOwn_main (A : Option Addr) (c : Nat) (l : List Nat) (N a : Nat) (w : World) (hr : Row w w.heap.size A l) (hl : l.length ≤ 140737488355328) (hRt : M.rightB l N = true) (haN : a ≤ N) :
    CallsIn Fence.wide 20 Tryd.prog 65 #[.slice A l.length c, .int .i64 N, .int .i64 a] w (Own3 (M.ownV l N a) w) := by
  have hro : Fence.wide.round = none := rfl
  have hV := (M.rightB_true hRt).2
  rw [Int.toNat_natCast] at hV
  have hn8 : N ≤ 8 * l.length := by have := hV.1; omega
  have hn2 : N ≤ 1125899906842624 := by omega
  have HR := Lib.hid hr; clear hr hV
  have HBw : ∀ (o1 o2 o3 o4 o5 : Obj), Below w.heap.size w (((((w.alloc o1).alloc o2).alloc o3).alloc o4).alloc o5) := fun o1 o2 o3 o4 o5 =>
    (((((Below.refl _ w).alloc (Nat.le_refl _) _).alloc (by simp) _).alloc (by simp; omega) _).alloc (by simp; omega) _).alloc (by simp; omega) _
  have HBW := Lib.hid HBw; clear HBw
  have d1 : decide ((a : Int) < 0) = false := by simp
  have d2 : decide (N < a) = false := by simp; omega
  obtain ⟨R, hR⟩ : ∃ R : Nat, min (N - a) 125 = R := ⟨_, rfl⟩
  have hmin : (if (125 : Int) < (N : Int) - a then (125 : Int) else (N : Int) - a) = (R : Int) := by split <;> omega
  have HRm := Lib.hid hR; clear hR
  refine callsIn_of_wp_marks Tryd.func65 rfl trivial ?_ hro
  simp only [Tryd.ntmps65, List.size_toArray, List.length_cons, List.length_nil, Nat.reduceAdd, Nat.reduceSub, Array.replicate_succ, Array.replicate_zero, List.push_toArray, List.append_toArray, List.nil_append, List.cons_append]
  gi_wp2
  refine scope_wide ?_
  gi_wp2_with (refine ⟨trivial, ?_⟩; gi_at_call 56; refine (callsIn_wide.2 (right_any _ _ l _ _ _ (HR.out.below (HBW.out _ _ _ _ _)) hl (by omega) (by omega))).mono ?_; rintro e w' ⟨rfl, rfl⟩)
  refine wpIn_label ?_
  gi_wp2_with (refine ⟨trivial, ?_⟩; gi_at_call 87; refine (span_in Fence.wide 19 trivial hro _ _ _ _ _ _).mono ?_; rintro e w' ⟨rfl, rfl⟩)
  have f0 := Boxed.new w 38 (.slice A l.length c)
  have f1 := Boxed.new (w.alloc (.cells #[.slice A l.length c] 38)) 3 (.int .i64 a)
  have f2 := Boxed.new ((w.alloc (.cells #[.slice A l.length c] 38)).alloc (.cells #[.int .i64 a] 3)) 51 (.int .u64 0)
  have f3 := Boxed.new (((w.alloc (.cells #[.slice A l.length c] 38)).alloc (.cells #[.int .i64 a] 3)).alloc (.cells #[.int .u64 0] 51)) 3 (.int .i64 0)
  have f4 := Boxed.new ((((w.alloc (.cells #[.slice A l.length c] 38)).alloc (.cells #[.int .i64 a] 3)).alloc (.cells #[.int .u64 0] 51)).alloc (.cells #[.int .i64 0] 3)) 26 (.int .i64 0)
  have f5 := Boxed.new (((((w.alloc (.cells #[.slice A l.length c] 38)).alloc (.cells #[.int .i64 a] 3)).alloc (.cells #[.int .u64 0] 51)).alloc (.cells #[.int .i64 0] 3)).alloc (.cells #[.int .i64 0] 26)) 3 (.int .i64 R)
  have f6 := Boxed.new ((((((w.alloc (.cells #[.slice A l.length c] 38)).alloc (.cells #[.int .i64 a] 3)).alloc (.cells #[.int .u64 0] 51)).alloc (.cells #[.int .i64 0] 3)).alloc (.cells #[.int .i64 0] 26)).alloc (.cells #[.int .i64 R] 3)) 3 (.int .i64 1)
  have f7 := Boxed.new (((((((w.alloc (.cells #[.slice A l.length c] 38)).alloc (.cells #[.int .i64 a] 3)).alloc (.cells #[.int .u64 0] 51)).alloc (.cells #[.int .i64 0] 3)).alloc (.cells #[.int .i64 0] 26)).alloc (.cells #[.int .i64 R] 3)).alloc (.cells #[.int .i64 1] 3)) 38 (.slice A l.length c)
  have f8 := Boxed.new ((((((((w.alloc (.cells #[.slice A l.length c] 38)).alloc (.cells #[.int .i64 a] 3)).alloc (.cells #[.int .u64 0] 51)).alloc (.cells #[.int .i64 0] 3)).alloc (.cells #[.int .i64 0] 26)).alloc (.cells #[.int .i64 R] 3)).alloc (.cells #[.int .i64 1] 3)).alloc (.cells #[.slice A l.length c] 38)) 3 (.int .i64 a)
  have f9 := Boxed.new (((((((((w.alloc (.cells #[.slice A l.length c] 38)).alloc (.cells #[.int .i64 a] 3)).alloc (.cells #[.int .u64 0] 51)).alloc (.cells #[.int .i64 0] 3)).alloc (.cells #[.int .i64 0] 26)).alloc (.cells #[.int .i64 R] 3)).alloc (.cells #[.int .i64 1] 3)).alloc (.cells #[.slice A l.length c] 38)).alloc (.cells #[.int .i64 a] 3)) 3 (.int .i64 N)
  simp only [World.size_alloc] at f1 f2 f3 f4 f5 f6 f7 f8 f9
  have f0 := ((((((((f0.alloc (.cells #[.int .i64 a] 3)).alloc (.cells #[.int .u64 0] 51)).alloc (.cells #[.int .i64 0] 3)).alloc (.cells #[.int .i64 0] 26)).alloc (.cells #[.int .i64 R] 3)).alloc (.cells #[.int .i64 1] 3)).alloc (.cells #[.slice A l.length c] 38)).alloc (.cells #[.int .i64 a] 3)).alloc (.cells #[.int .i64 N] 3)
  have f1 := (((((((f1.alloc (.cells #[.int .u64 0] 51)).alloc (.cells #[.int .i64 0] 3)).alloc (.cells #[.int .i64 0] 26)).alloc (.cells #[.int .i64 R] 3)).alloc (.cells #[.int .i64 1] 3)).alloc (.cells #[.slice A l.length c] 38)).alloc (.cells #[.int .i64 a] 3)).alloc (.cells #[.int .i64 N] 3)
  have f2 := ((((((f2.alloc (.cells #[.int .i64 0] 3)).alloc (.cells #[.int .i64 0] 26)).alloc (.cells #[.int .i64 R] 3)).alloc (.cells #[.int .i64 1] 3)).alloc (.cells #[.slice A l.length c] 38)).alloc (.cells #[.int .i64 a] 3)).alloc (.cells #[.int .i64 N] 3)
  have f3 := (((((f3.alloc (.cells #[.int .i64 0] 26)).alloc (.cells #[.int .i64 R] 3)).alloc (.cells #[.int .i64 1] 3)).alloc (.cells #[.slice A l.length c] 38)).alloc (.cells #[.int .i64 a] 3)).alloc (.cells #[.int .i64 N] 3)
  have f4 := ((((f4.alloc (.cells #[.int .i64 R] 3)).alloc (.cells #[.int .i64 1] 3)).alloc (.cells #[.slice A l.length c] 38)).alloc (.cells #[.int .i64 a] 3)).alloc (.cells #[.int .i64 N] 3)
  have f5 := (((f5.alloc (.cells #[.int .i64 1] 3)).alloc (.cells #[.slice A l.length c] 38)).alloc (.cells #[.int .i64 a] 3)).alloc (.cells #[.int .i64 N] 3)
  have f6 := ((f6.alloc (.cells #[.slice A l.length c] 38)).alloc (.cells #[.int .i64 a] 3)).alloc (.cells #[.int .i64 N] 3)
  have f7 := (f7.alloc (.cells #[.int .i64 a] 3)).alloc (.cells #[.int .i64 N] 3)
  have f8 := f8.alloc (.cells #[.int .i64 N] 3)
  have hZ : ((((((((((w.alloc (.cells #[.slice A l.length c] 38)).alloc (.cells #[.int .i64 a] 3)).alloc (.cells #[.int .u64 0] 51)).alloc (.cells #[.int .i64 0] 3)).alloc (.cells #[.int .i64 0] 26)).alloc (.cells #[.int .i64 R] 3)).alloc (.cells #[.int .i64 1] 3)).alloc (.cells #[.slice A l.length c] 38)).alloc (.cells #[.int .i64 a] 3)).alloc (.cells #[.int .i64 N] 3)).heap.size = w.heap.size + 10 := by simp
  have hB0 : Below w.heap.size w ((((((((((w.alloc (.cells #[.slice A l.length c] 38)).alloc (.cells #[.int .i64 a] 3)).alloc (.cells #[.int .u64 0] 51)).alloc (.cells #[.int .i64 0] 3)).alloc (.cells #[.int .i64 0] 26)).alloc (.cells #[.int .i64 R] 3)).alloc (.cells #[.int .i64 1] 3)).alloc (.cells #[.slice A l.length c] 38)).alloc (.cells #[.int .i64 a] 3)).alloc (.cells #[.int .i64 N] 3)) :=
    (((((HBW.out _ _ _ _ _).alloc (by simp; omega) _).alloc (by simp; omega) _).alloc (by simp; omega) _).alloc (by simp; omega) _).alloc (by simp; omega) _
  generalize ((((((((((w.alloc (.cells #[.slice A l.length c] 38)).alloc (.cells #[.int .i64 a] 3)).alloc (.cells #[.int .u64 0] 51)).alloc (.cells #[.int .i64 0] 3)).alloc (.cells #[.int .i64 0] 26)).alloc (.cells #[.int .i64 R] 3)).alloc (.cells #[.int .i64 1] 3)).alloc (.cells #[.slice A l.length c] 38)).alloc (.cells #[.int .i64 a] 3)).alloc (.cells #[.int .i64 N] 3)) = W0 at *
  generalize hB1 : w.heap.size + 1 = B1 at *
  generalize hB2 : B1 + 1 = B2 at *
  generalize hB3 : B2 + 1 = B3 at *
  generalize hB4 : B3 + 1 = B4 at *
  generalize hB5 : B4 + 1 = B5 at *
  generalize hB6 : B5 + 1 = B6 at *
  generalize hB7 : B6 + 1 = B7 at *
  generalize hB8 : B7 + 1 = B8 at *
  generalize hB9 : B8 + 1 = B9 at *
  have HBS : Hid (B1 = w.heap.size + 1 ∧ B2 = w.heap.size + 2 ∧ B3 = w.heap.size + 3 ∧ B4 = w.heap.size + 4 ∧ B5 = w.heap.size + 5 ∧ B6 = w.heap.size + 6 ∧ B7 = w.heap.size + 7 ∧ B8 = w.heap.size + 8 ∧ B9 = w.heap.size + 9 ∧ W0.heap.size = w.heap.size + 10) := ⟨by omega, by omega, by omega, by omega, by omega, by omega, by omega, by omega, by omega, hZ⟩
  clear hB1 hB2 hB3 hB4 hB5 hB6 hB7 hB8 hB9 hZ
  refine wpIn_rangeFunc_ownF hro (by decide) (gf := 95) (lb := #[.pointer (some ⟨B8, 0, none⟩), .pointer (some ⟨B9, 0, none⟩), .pointer (some ⟨B7, 0, none⟩)]) rfl trivial (enters_of Tryd.func95 (by kernel_rfl) rfl)
    (span_stops Fence.wide 19 trivial hro (by decide) B8 B9 B7 w.heap.size a (N - a) c A l hl (by omega) W0 (by have := HBS.out; omega) (by have := HBS.out; omega) (by have := HBS.out; omega) (by have := HBS.out; omega) f8.cell (by rw [f9.cell]; congr 3; omega) f7.cell (HR.out.below hB0)) KeepCells.trans (KeepCells.putObj (by have := HBS.out; rintro p (h | h | h) <;> omega)) (Below.refl _ _) (fun _ => rfl)
    (fun pre W => Scan A l c a R w.heap.size B1 B2 B3 B4 B5 B6 pre W ∧ Below w.heap.size w W)
    (fun cd pre W => Left l a R B2 B3 B4 cd pre W ∧ Below w.heap.size w W)
    (OwnFrom.and (Own.from (scan_own A l c a R w.heap.size B1 B2 B3 B4 B5 B6) _) (ownFrom_below (Nat.le_refl _) (by have := HBS.out; omega)))
    (fun cd => OwnFrom.and (Own.from (left_own l a R B2 B3 B4 cd) _) (ownFrom_below (Nat.le_refl _) (by have := HBS.out; omega)))
    ⟨⟨by simp, f6, f2, f3, f4, f0, f1, f5⟩, hB0⟩
    (fun x => { tmps := #[.slice A l.length c, .int .i64 N, .int .i64 a, .pointer (some ⟨w.heap.size, 0, none⟩), undef, .pointer (some ⟨B1, 0, none⟩), .pointer (some ⟨B2, 0, none⟩), .pointer (some ⟨B3, 0, none⟩), .pointer (some ⟨B4, 0, none⟩), .pointer (some ⟨B5, 0, none⟩), .pointer (some ⟨B6, 0, none⟩), .int .u64 ((x.val : Nat) : Int), undef,
      .slice A l.length c, .int .i64 N, .bool true, .bool false, .bool false, .int .i64 a, .bool false, .bool false, .bool false, .int .i64 a, .int .i64 N, .bool false, .bool false, .int .i64 N, .int .i64 a, .int .i64 ((N : Int) - a), .int .i64 R, .slice A l.length c, .int .i64 a, .int .i64 N,
      .func (.func 95) #[] #[.pointer (some ⟨B8, 0, none⟩), .pointer (some ⟨B9, 0, none⟩), .pointer (some ⟨B7, 0, none⟩)], .int .u64 ((x.val : Nat) : Int), undef, undef, undef, undef, undef, undef, undef, undef, undef, undef, undef, undef, undef, undef, undef, undef, undef, undef, undef, undef, undef, undef, undef, undef, undef], defers := [] }) ?assign ?body ?done ?stop
  case assign =>
    intro y x W K hK
    gi_wp2
    exact hK
  case body =>
    rintro y pre x W ⟨hS, hB⟩ hlt
    clear f0 f1 f2 f3 f4 f5 f6 f7 f8 f9 hB0 d1 d2 hmin HBW
    have c0 := hS.row.cell
    have c1 := hS.at_.cell
    have c5 := hS.room.cell
    have c6 := hS.size.cell
    have e6 := hS.size.frozen
    obtain ⟨S, hSe⟩ : ∃ S, 1 + 2 * pre.length = S := ⟨_, rfl⟩
    rw [hSe] at c6
    have HSE := Lib.hid hSe; clear hSe
    have hS2 : S ≤ 2251799813685249 := by have := HSE.out; omega
    have HSC := Lib.hid hS; clear hS
    by_cases hbig : R < S
    · dsimp only
      gi_wp2
      exact ⟨KeepsOthers.refl _, .inl ⟨rfl, pre, x, rfl, HSC.out.zeros, .inl (by rw [HSE.out]; exact hbig), HSC.out.r1, HSC.out.r2, HSC.out.r3⟩, hB⟩
    · have hR125 : R ≤ 125 ∧ R ≤ N - a := by have := HRm.out; omega
      by_cases hx1 : x.val = 1
      · have hxb : (((x.val : Nat) : Int) == 1) = true := by simp [hx1]
        obtain ⟨z, hz⟩ : ∃ z, pre.length = z := ⟨_, rfl⟩
        obtain ⟨Pz, hPz⟩ : ∃ P, a + z = P := ⟨_, rfl⟩
        obtain ⟨E, hE⟩ : ∃ E, a + S = E := ⟨_, rfl⟩
        have hSz : S = 1 + 2 * z := by rw [← hz]; exact HSE.out.symm
        have q1 : (S : Int) / 2 = (z : Int) := by omega
        have q2 : (a : Int) + z = (Pz : Int) := by omega
        have q3 : (a : Int) + S = (E : Int) := by omega
        have hEN : E ≤ N := by omega
        have hEz : E - Pz = z + 1 := by omega
        have hz62 : z ≤ 62 := by omega
        have HSZ := Lib.hid hSz
        have HZ := Lib.hid hz
        have HPZ := Lib.hid hPz
        have HE := Lib.hid hE
        have HX1 := Lib.hid hx1
        clear hSz hz hPz hE hx1
        have hrow : Row W W.heap.size A l := (HR.out.below hB).more hB.size
        have hnum := number_in Fence.wide 17 trivial trivial trivial rfl (by decide) A c l Pz E W hrow hl (by omega) (by omega)
        rw [hEz] at hnum
        obtain ⟨X, hX⟩ : ∃ X : Int, ((M.num l Pz (z + 1) : Nat) : Int) = X := ⟨_, rfl⟩
        rw [hX] at hnum
        have HNUM := Lib.hid hnum
        have hXlt : X < 18446744073709551616 := by have := M.num_lt64 l Pz (z + 1); omega
        have hX0 : 0 ≤ X := by omega
        have HX := Lib.hid hX
        clear hnum hrow hX hEz
        by_cases hC : X ≤ 4611686018427387904
        · have hmx : Tryd.prog.follows .mixedOrders = true := by kernel_rfl
          dsimp only
          gi_wp2_with (refine ⟨trivial, ?_⟩; gi_at_call 86; refine (CallsIn.inRound y HNUM.out).mono ?_; rintro e W1 ⟨rfl, hb1⟩)
          have k2 := boxed_below HSC.out.r1 hb1 HSC.out.r1.lt
          have k3 := boxed_below HSC.out.r2 hb1 HSC.out.r2.lt
          have k4 := boxed_below HSC.out.r3 hb1 HSC.out.r3.lt
          have k1 := (boxed_below HSC.out.at_ hb1 HSC.out.at_.lt).cell
          have k6 := (boxed_below HSC.out.size hb1 HSC.out.size.lt).cell
          rw [HSE.out] at k6
          have u2 := k2.cell
          have v2 := k2.frozen
          have u3 := k3.cell
          have v3 := k3.frozen
          have u4 := k4.cell
          have v4 := k4.frozen
          have K2 := Lib.hid k2; clear k2
          have K3 := Lib.hid k3; clear k3
          have K4 := Lib.hid k4; clear k4
          obtain ⟨Y, hY⟩ : ∃ Y, IntKind.u64.wrap (X - 1) = Y := ⟨_, rfl⟩
          have HY := Lib.hid hY
          have hbs := HBS.out
          have m21 : B2 ≠ B1 := by omega
          have m26 : B2 ≠ B6 := by omega
          have m31 : B3 ≠ B1 := by omega
          have m36 : B3 ≠ B6 := by omega
          have m41 : B4 ≠ B1 := by omega
          have m46 : B4 ≠ B6 := by omega
          have g1 : ∀ v, (W1.setCell ⟨B2, 0, none⟩ v).cell? ⟨B3, 0, none⟩ = some (.int .i64 0) := fun v => (World.cell?_setCell_other _ _ _ _ (fun e => by injection e; omega)).trans u3
          have g2 : ∀ v v', ((W1.setCell ⟨B2, 0, none⟩ v).setCell ⟨B3, 0, none⟩ v').cell? ⟨B4, 0, none⟩ = some (.int .i64 0) := fun v v' => (World.cell?_setCell_other _ _ _ _ (fun e => by injection e; omega)).trans ((World.cell?_setCell_other _ _ _ _ (fun e => by injection e; omega)).trans u4)
          clear hbs
          have s2 : IntKind.i64.wrap (E : Int) = (E : Int) := IntWalk.i64_in _ (by omega)
          refine region_heldIn (fun W => W.cell? ⟨B1, 0, none⟩ = some (.int .i64 a) ∧ W.cell? ⟨B6, 0, none⟩ = some (.int .i64 S)) hmx (by kernel_rfl) (fun _ _ h => h) ?_
          refine wpAnyH_take (i := 0) (v := .int .u64 X) rfl (by kernel_rfl) (by kernel_rfl) (by kernel_rfl) (fun _ _ _ h => h) (.inl ⟨by rfl, fun w hw => by go_simp⟩) ⟨k1, k6⟩ ?_
          refine wpAnyH_take (i := 1) (v := .int .u64 Y) rfl (by kernel_rfl) (by kernel_rfl) (by kernel_rfl) (fun _ _ _ h => h) (.inl ⟨by rfl, fun w hw => by go_simp⟩) ⟨k1, k6⟩ ?_
          refine wpAnyH_take (i := 2) (v := .int .i64 a) rfl (by kernel_rfl) (by kernel_rfl) (by kernel_rfl) (fun _ _ _ h => h) (.inl ⟨by rfl, fun w ⟨hw1, hw2⟩ => by go_simp⟩) ⟨k1, k6⟩ ?_
          refine wpAnyH_take (i := 3) (v := .int .i64 S) rfl (by kernel_rfl) (by kernel_rfl) (by kernel_rfl) (fun _ _ _ h => h) (.inl ⟨by rfl, fun w ⟨hw1, hw2⟩ => by go_simp⟩) ⟨k1, k6⟩ ?_
          refine wpAnyH_take (i := 4) (v := .int .i64 E) rfl (by kernel_rfl) (by kernel_rfl) (by kernel_rfl) (fun _ _ _ h => h) (.inl ⟨by rfl, fun w hw => by go_simp⟩) ⟨k1, k6⟩ ?_
          refine wpAnyH_all (rs := [5]) (by kernel_rfl) (by simp) (fun i hi => ?_)
          obtain rfl := List.mem_singleton.1 hi
          refine wpOp_step rfl (fun K' hK' => ?_)
          go_simp
          refine hK' _ _ ⟨⟨cell_far m21 k1, cell_far m26 k6⟩, ?_⟩
          clear hK' K' hi
          refine wpAnyH_all (rs := [6]) (by kernel_rfl) (by simp) (fun i hi => ?_)
          obtain rfl := List.mem_singleton.1 hi
          refine wpOp_step rfl (fun K' hK' => ?_)
          go_simp
          refine hK' _ _ ⟨⟨cell_far m31 (cell_far m21 k1), cell_far m36 (cell_far m26 k6)⟩, ?_⟩
          clear hK' K' hi
          refine wpAnyH_all (rs := [7]) (by kernel_rfl) (by simp) (fun i hi => ?_)
          obtain rfl := List.mem_singleton.1 hi
          refine wpOp_step rfl (fun K' hK' => ?_)
          go_simp
          refine hK' _ _ ⟨⟨cell_far m41 (cell_far m31 (cell_far m21 k1)), cell_far m46 (cell_far m36 (cell_far m26 k6))⟩, ?_⟩
          clear hK' K' hi
          refine wpAnyH_done (by kernel_rfl) ?_ _
          gi_wp2
          have hbs := HBS.out
          have hlen : a + pre.length = Pz := by rw [HZ.out]; exact HPZ.out
          have hE2 : ((a + (1 + 2 * pre.length) : Nat) : Int) = (E : Int) := by have := HE.out; have := HSE.out; omega
          refine ⟨(((keepsOthers_below hb1).trans (KeepsOthers.setCell _ _ _)).trans ((KeepsOthers.setCell _ _ _).trans (KeepsOthers.setCell _ _ _))).trans (KeepsOthers.drew _), .inr ⟨rfl, pre, x, rfl, HSC.out.zeros, HX1.out, by rw [HSE.out]; omega, by rw [hlen, HZ.out]; have := HX.out; omega, ?_, ?_, ?_⟩, ?_⟩
          · rw [hlen, HZ.out, HX.out, HY.out]
            exact boxed_far (boxed_far (K2.out.set _) (p := ⟨B3, 0, none⟩) (by simp; omega) _) (p := ⟨B4, 0, none⟩) (by simp; omega) _
          · rw [hE2]
            exact boxed_far ((boxed_far K3.out (p := ⟨B2, 0, none⟩) (by simp; omega) _).set _) (p := ⟨B4, 0, none⟩) (by simp; omega) _
          · exact (boxed_far (boxed_far K4.out (p := ⟨B2, 0, none⟩) (by simp; omega) _) (p := ⟨B3, 0, none⟩) (by simp; omega) _).set _
          · exact ((((hB.trans (hb1.mono hB.size)).setCell (p := ⟨B2, 0, none⟩) (by show _ ≤ B2; omega) _).setCell (p := ⟨B3, 0, none⟩) (by show _ ≤ B3; omega) _).setCell (p := ⟨B4, 0, none⟩) (by show _ ≤ B4; omega) _).drew
        · have hC' : 4611686018427387904 < X := by omega
          dsimp only
          gi_wp2_with (refine ⟨trivial, ?_⟩; gi_at_call 86; refine (CallsIn.inRound y HNUM.out).mono ?_; rintro e W1 ⟨rfl, hb1⟩)
          have hlen : a + pre.length = Pz := by rw [HZ.out]; exact HPZ.out
          exact ⟨keepsOthers_below hb1, .inl ⟨rfl, pre, x, rfl, HSC.out.zeros, .inr ⟨HX1.out, by rw [HSE.out]; omega, by rw [hlen, HZ.out]; have := HX.out; omega⟩, boxed_below HSC.out.r1 hb1 HSC.out.r1.lt, boxed_below HSC.out.r2 hb1 HSC.out.r2.lt, boxed_below HSC.out.r3 hb1 HSC.out.r3.lt⟩, hB.trans (hb1.mono hB.size)⟩
      · have hx0 : x.val = 0 := by have := x.2; omega
        have hxb : (((x.val : Nat) : Int) == 1) = false := by simp [hx0]
        have HX0 := Lib.hid hx0
        clear hx1 hx0
        dsimp only
        gi_wp2
        have hS6 := HSC.out
        have hbs := HBS.out
        refine ⟨KeepsOthers.setCell _ _ _, ?_, ⟨?_, ?_, ?_, ?_, ?_, ?_, ?_, ?_⟩, ?_⟩
        · intro p hp
          refine World.cell?_setCell_other _ _ _ _ ?_
          rintro rfl
          rcases hp with h | h | h <;> simp at h <;> omega
        · intro v hv
          rcases List.mem_append.1 hv with h | h
          · exact hS6.zeros v h
          · rw [List.mem_singleton.1 h]; exact HX0.out
        · have e : ((1 + 2 * (pre ++ [x]).length : Nat) : Int) = (S : Int) + 2 := by have := HSE.out; simp; omega
          rw [e]; exact hS6.size.set _
        · exact boxed_far hS6.r1 (by simp; omega) _
        · exact boxed_far hS6.r2 (by simp; omega) _
        · exact boxed_far hS6.r3 (by simp; omega) _
        · exact boxed_far hS6.row (by simp; omega) _
        · exact boxed_far hS6.at_ (by simp; omega) _
        · exact boxed_far hS6.room (by simp; omega) _
        · exact hB.setCell (p := ⟨B6, 0, none⟩) (by show _ ≤ B6; omega) _
  case done =>
    rintro D ys W hD hys ⟨hS, hB⟩ hK
    have HT : Hid (M.ownV l N a = (0, 0, 10)) := by
      refine M.ownV_none hRt haN (M.own_none (z := N - a) (M.lead_eq l a (N - a) (N - a) (Nat.le_refl _) (fun j hj => ?_) (.inl rfl)) (by omega))
      have h1 : (seg l a (N - a))[j]? = some (M.bitAt l (a + j)) := by simp [seg, hj]
      rw [← hys, List.getElem?_map] at h1
      obtain ⟨v, hv, hv2⟩ := Option.map_eq_some_iff.1 h1
      rw [← hv2]
      exact hS.zeros v (List.mem_of_getElem? hv)
    clear f0 f1 f2 f3 f4 f5 f6 f7 f8 f9 hB0 d1 d2 hmin HBW hys
    have u2 := hS.r1.cell
    have v2 := hS.r1.frozen
    have u3 := hS.r2.cell
    have v3 := hS.r2.frozen
    have u4 := hS.r3.cell
    have v4 := hS.r3.frozen
    have hbs := HBS.out
    have g1 : ∀ v, (W.setCell ⟨B2, 0, none⟩ v).cell? ⟨B3, 0, none⟩ = some (.int .i64 0) := fun v => cell_far (by omega) u3
    have g2 : ∀ v v', ((W.setCell ⟨B2, 0, none⟩ v).setCell ⟨B3, 0, none⟩ v').cell? ⟨B4, 0, none⟩ = some (.int .i64 0) := fun v v' => cell_far (by omega) (cell_far (by omega) u4)
    have HSC := Lib.hid hS; clear hS hbs
    gi_wp2
    have hS4 := (⟨HSC.out.r1, HSC.out.r2, HSC.out.r3⟩ : Boxed W B2 51 (.int .u64 0) ∧ Boxed W B3 3 (.int .i64 0) ∧ Boxed W B4 26 (.int .i64 0))
    have hbs := HBS.out
    have hK' : (((W.setCell ⟨B2, 0, none⟩ (Value.int .u64 0)).setCell ⟨B3, 0, none⟩ (Value.int .i64 0)).setCell ⟨B4, 0, none⟩ (Value.int .i64 10)).heap[D]? = some (.deferred (some [])) := ((KeepsOthers.setCell _ _ _).trans ((KeepsOthers.setCell _ _ _).trans (KeepsOthers.setCell _ _ _))).same D _ hK rfl
    refine ⟨by simp, .inl ⟨_, _, rfl, run_takeDeferred hK', ?_⟩⟩
    have t2 := (boxed_keeps (boxed_far (boxed_far (Boxed.set (Value.int .u64 0) hS4.1) (p := ⟨B3, 0, none⟩) (by simp; omega) (Value.int .i64 0)) (p := ⟨B4, 0, none⟩) (by simp; omega) (Value.int .i64 10)) (grownBy_putObj' _ D (.deferred none)) (fun r e => by cases e; exact ⟨_, hK', rfl⟩)).cell
    have t3 := (boxed_keeps (boxed_far (Boxed.set (Value.int .i64 0) (boxed_far hS4.2.1 (p := ⟨B2, 0, none⟩) (by simp; omega) (Value.int .u64 0))) (p := ⟨B4, 0, none⟩) (by simp; omega) (Value.int .i64 10)) (grownBy_putObj' _ D (.deferred none)) (fun r e => by cases e; exact ⟨_, hK', rfl⟩)).cell
    have t4 := (boxed_keeps (Boxed.set (Value.int .i64 10) (boxed_far (boxed_far hS4.2.2 (p := ⟨B2, 0, none⟩) (by simp; omega) (Value.int .u64 0)) (p := ⟨B3, 0, none⟩) (by simp; omega) (Value.int .i64 0))) (grownBy_putObj' _ D (.deferred none)) (fun r e => by cases e; exact ⟨_, hK', rfl⟩)).cell
    refine ⟨.tuple #[.int .u64 0, .int .i64 0, .int .i64 10], ?_, ?_⟩
    · simp [results, Tryd.f65, go_sem, t2, t3, t4]
    · refine ⟨by rw [HT.out], ?_⟩
      exact (((hB.setCell (p := ⟨B2, 0, none⟩) (by show _ ≤ B2; omega) _).setCell (p := ⟨B3, 0, none⟩) (by show _ ≤ B3; omega) _).setCell (p := ⟨B4, 0, none⟩) (by show _ ≤ B4; omega) _).trans (belowK_b (w := w) (Nat.le_refl _) _ D _ _ (by omega) hK' rfl rfl)
  case stop =>
    rintro D cd pre W hD hpre ⟨hL, hB⟩ hK
    clear f0 f1 f2 f3 f4 f5 f6 f7 f8 f9 hB0 d1 d2 hmin HBW
    have hbit : ∀ (q : List (Fin 2)) (y : Fin 2), pre = q ++ [y] → (∀ v ∈ q, v.val = 0) → q.length < N - a ∧ (∀ j, j < q.length → M.bitAt l (a + j) = 0) ∧ M.bitAt l (a + q.length) = y.val := by
      rintro q y rfl hq
      obtain ⟨t, ht⟩ := hpre
      have hlen : (q ++ [y]).length + t.length = N - a := by
        have := congrArg List.length ht
        rwa [List.length_append, List.length_map, seg_length] at this
      have hget : ∀ j, j < N - a → (seg l a (N - a))[j]? = some (M.bitAt l (a + j)) := fun j hj => by simp [seg, hj]
      simp only [List.length_append, List.length_singleton] at hlen
      refine ⟨by omega, fun j hj => ?_, ?_⟩
      · have h1 := hget j (by omega)
        rw [← ht, List.map_append, List.append_assoc, List.getElem?_append_left (by simpa using hj), List.getElem?_map] at h1
        obtain ⟨v, hv, hv2⟩ := Option.map_eq_some_iff.1 h1
        rw [← hv2]
        exact hq v (List.mem_of_getElem? hv)
      · have h1 := hget q.length (by omega)
        rw [← ht, List.map_append, List.append_assoc, List.getElem?_append_right (by simp)] at h1
        simp at h1
        exact h1.symm
    rcases hL with ⟨rfl, q, y, he, hq, hf, r1, r2, r3⟩ | ⟨rfl, q, y, he, hq, h1, h2, h3, r1, r2, r3⟩
    · obtain ⟨hql, hz, hy⟩ := hbit q y he hq
      have HT : Hid (M.ownV l N a = (0, 0, 10)) := by
        have hRm := HRm.out
        rcases hf with hf | ⟨hy1, hfR, hfn⟩
        · refine M.ownV_none hRt haN (M.own_none rfl ?_)
          have hle : q.length ≤ M.lead l a (N - a) := by
            rcases Nat.lt_or_ge (M.lead l a (N - a)) q.length with h | h
            · have := M.lead_one l a (N - a) (by omega)
              rw [hz _ h] at this; omega
            · exact h
          omega
        · refine M.ownV_none hRt haN (M.own_none (z := q.length) (M.lead_eq l a (N - a) q.length (by omega) hz (.inr (by rw [hy, hy1]; decide))) (by omega))
      have u2 := r1.cell
      have v2 := r1.frozen
      have u3 := r2.cell
      have v3 := r2.frozen
      have u4 := r3.cell
      have v4 := r3.frozen
      have hbs := HBS.out
      have g1 : ∀ v, (W.setCell ⟨B2, 0, none⟩ v).cell? ⟨B3, 0, none⟩ = some (.int .i64 0) := fun v => cell_far (by omega) u3
      have g2 : ∀ v v', ((W.setCell ⟨B2, 0, none⟩ v).setCell ⟨B3, 0, none⟩ v').cell? ⟨B4, 0, none⟩ = some (.int .i64 0) := fun v v' => cell_far (by omega) (cell_far (by omega) u4)
      have HSC : Hid (Boxed W B2 51 (.int .u64 0) ∧ Boxed W B3 3 (.int .i64 0) ∧ Boxed W B4 26 (.int .i64 0)) := ⟨r1, r2, r3⟩
      clear hbs r1 r2 r3 hbit hz hy hf hq he
      gi_wp2
      have hS4 := HSC.out
      have hbs := HBS.out
      have hK' : (((W.setCell ⟨B2, 0, none⟩ (Value.int .u64 0)).setCell ⟨B3, 0, none⟩ (Value.int .i64 0)).setCell ⟨B4, 0, none⟩ (Value.int .i64 10)).heap[D]? = some (.deferred (some [])) := ((KeepsOthers.setCell _ _ _).trans ((KeepsOthers.setCell _ _ _).trans (KeepsOthers.setCell _ _ _))).same D _ hK rfl
      refine ⟨by simp, .inl ⟨_, _, rfl, run_takeDeferred hK', ?_⟩⟩
      have t2 := (boxed_keeps (boxed_far (boxed_far (Boxed.set (Value.int .u64 0) hS4.1) (p := ⟨B3, 0, none⟩) (by simp; omega) (Value.int .i64 0)) (p := ⟨B4, 0, none⟩) (by simp; omega) (Value.int .i64 10)) (grownBy_putObj' _ D (.deferred none)) (fun r e => by cases e; exact ⟨_, hK', rfl⟩)).cell
      have t3 := (boxed_keeps (boxed_far (Boxed.set (Value.int .i64 0) (boxed_far hS4.2.1 (p := ⟨B2, 0, none⟩) (by simp; omega) (Value.int .u64 0))) (p := ⟨B4, 0, none⟩) (by simp; omega) (Value.int .i64 10)) (grownBy_putObj' _ D (.deferred none)) (fun r e => by cases e; exact ⟨_, hK', rfl⟩)).cell
      have t4 := (boxed_keeps (Boxed.set (Value.int .i64 10) (boxed_far (boxed_far hS4.2.2 (p := ⟨B2, 0, none⟩) (by simp; omega) (Value.int .u64 0)) (p := ⟨B3, 0, none⟩) (by simp; omega) (Value.int .i64 0))) (grownBy_putObj' _ D (.deferred none)) (fun r e => by cases e; exact ⟨_, hK', rfl⟩)).cell
      refine ⟨.tuple #[.int .u64 0, .int .i64 0, .int .i64 10], ?_, ?_⟩
      · simp [results, Tryd.f65, go_sem, t2, t3, t4]
      · refine ⟨by rw [HT.out], ?_⟩
        exact (((hB.setCell (p := ⟨B2, 0, none⟩) (by show _ ≤ B2; omega) _).setCell (p := ⟨B3, 0, none⟩) (by show _ ≤ B3; omega) _).setCell (p := ⟨B4, 0, none⟩) (by show _ ≤ B4; omega) _).trans (belowK_b (w := w) (Nat.le_refl _) _ D _ _ (by omega) hK' rfl rfl)
    · obtain ⟨hql, hz, hy⟩ := hbit q y he hq
      have hRm := HRm.out
      rw [h1] at hy
      have HT : Hid (M.ownV l N a = (((M.num l (a + q.length) (q.length + 1) : Nat) : Int) - 1, ((a + (1 + 2 * q.length) : Nat) : Int), 0)) := by
        have hge := M.num_ge l (a + q.length) q.length hy (by omega)
        have hge1 : 1 ≤ M.num l (a + q.length) (q.length + 1) := Nat.le_trans Nat.one_le_two_pow hge
        show _ = _
        rw [M.ownV_some hRt haN (M.own_some (z := q.length) (M.lead_eq l a (N - a) q.length (by omega) hz (.inr (by rw [hy]; decide))) (by omega) (by omega) h3)]
        refine Prod.ext (by show ((_ - 1 : Nat) : Int) = _; omega) (Prod.ext (by show ((a + 2 * q.length + 1 : Nat) : Int) = ((a + (1 + 2 * q.length) : Nat) : Int); omega) rfl)
      have hge := M.num_ge l (a + q.length) q.length hy (by omega)
      have hge1 : 1 ≤ M.num l (a + q.length) (q.length + 1) := Nat.le_trans Nat.one_le_two_pow hge
      have hw : IntKind.u64.wrap (((M.num l (a + q.length) (q.length + 1) : Nat) : Int) - 1) = ((M.num l (a + q.length) (q.length + 1) : Nat) : Int) - 1 := by
        rw [IntKind.wrap_u64]; omega
      rw [hw] at r1
      have hbs := HBS.out
      refine wpIn_ret ?_
      refine ⟨by simp, .inl ⟨_, _, rfl, run_takeDeferred hK, ?_⟩⟩
      have t2 := (boxed_keeps r1 (grownBy_putObj' _ D (.deferred none)) (fun r e => by cases e; exact ⟨_, hK, rfl⟩)).cell
      have t3 := (boxed_keeps r2 (grownBy_putObj' _ D (.deferred none)) (fun r e => by cases e; exact ⟨_, hK, rfl⟩)).cell
      have t4 := (boxed_keeps r3 (grownBy_putObj' _ D (.deferred none)) (fun r e => by cases e; exact ⟨_, hK, rfl⟩)).cell
      refine ⟨.tuple #[.int .u64 (((M.num l (a + q.length) (q.length + 1) : Nat) : Int) - 1), .int .i64 ((a + (1 + 2 * q.length) : Nat) : Int), .int .i64 0], ?_, ?_⟩
      · simp [results, Tryd.f65, go_sem, t2, t3, t4]
      · exact ⟨by rw [HT.out], hB.trans (belowK_b (w := w) (Nat.le_refl _) _ D _ _ (by omega) hK rfl rfl)⟩

set_option maxRecDepth 100000 in
set_option maxHeartbeats 1000000 in
theorem takeOwn_arg (A : Option Addr) (c : Nat) (l : List Nat) (n a : Int) (w : World) (hr : Row w w.heap.size A l) (hl : l.length ≤ 140737488355328) (h0 : -9223372036854775808 ≤ n) (h1 : n < 9223372036854775808) (hno : ¬ (M.rightB l n = true ∧ 0 ≤ a ∧ a ≤ n)) :
    Calls Tryd.prog 65 #[.slice A l.length c, .int .i64 n, .int .i64 a] w (Own3 (M.ownV l n a) w) := by
  have HT := Lib.hid (M.ownV_arg hno)
  have HR := Lib.hid hr; clear hr
  have HBw : ∀ (o1 o2 o3 o4 o5 : Obj), Below w.heap.size w (((((w.alloc o1).alloc o2).alloc o3).alloc o4).alloc o5) := fun o1 o2 o3 o4 o5 =>
    (((((Below.refl _ w).alloc (Nat.le_refl _) _).alloc (by simp) _).alloc (by simp; omega) _).alloc (by simp; omega) _).alloc (by simp; omega) _
  have HBW := Lib.hid HBw; clear HBw
  by_cases hR : M.rightB l n = true
  · by_cases ha : a < 0
    · clear hno
      go_enter Tryd.func65, Tryd.ntmps65
      go_wp2
      refine wp_scope_straight ?_
      go_wp2_with (go_at_call 56; refine (right_any _ _ l _ _ _ (HR.out.below (HBW.out _ _ _ _ _)) hl (by omega) (by omega)).mono ?_; rintro e w' ⟨rfl, rfl⟩)
      refine bodyPost_ret (v := .tuple #[.int .u64 0, .int .i64 0, .int .i64 2]) (by simp [results, Tryd.f65, go_sem]) rfl ?_
      exact ⟨by rw [HT.out], HBW.out _ _ _ _ _⟩
    · have ha2 : n < a := by
        rcases Int.lt_or_le n a with h | h
        · exact h
        · exact absurd ⟨hR, by omega, h⟩ hno
      clear hno
      go_enter Tryd.func65, Tryd.ntmps65
      go_wp2
      refine wp_scope_straight ?_
      go_wp2_with (go_at_call 56; refine (right_any _ _ l _ _ _ (HR.out.below (HBW.out _ _ _ _ _)) hl (by omega) (by omega)).mono ?_; rintro e w' ⟨rfl, rfl⟩)
      refine bodyPost_ret (v := .tuple #[.int .u64 0, .int .i64 0, .int .i64 2]) (by simp [results, Tryd.f65, go_sem]) rfl ?_
      exact ⟨by rw [HT.out], HBW.out _ _ _ _ _⟩
  · have hR' : M.rightB l n = false := by simpa using hR
    clear hno hR
    go_enter Tryd.func65, Tryd.ntmps65
    go_wp2
    refine wp_scope_straight ?_
    go_wp2_with (go_at_call 56; refine (right_any _ _ l _ _ _ (HR.out.below (HBW.out _ _ _ _ _)) hl (by omega) (by omega)).mono ?_; rintro e w' ⟨rfl, rfl⟩)
    refine bodyPost_ret (v := .tuple #[.int .u64 0, .int .i64 0, .int .i64 2]) (by simp [results, Tryd.f65, go_sem]) rfl ?_
    exact ⟨by rw [HT.out], HBW.out _ _ _ _ _⟩

set_option maxRecDepth 100000 in
theorem takeOwn_any (A : Option Addr) (c : Nat) (l : List Nat) (n a : Int) (w : World) (hr : Row w w.heap.size A l) (hl : l.length ≤ 140737488355328) (h0 : -9223372036854775808 ≤ n) (h1 : n < 9223372036854775808) :
    Calls Tryd.prog 65 #[.slice A l.length c, .int .i64 n, .int .i64 a] w (Own3 (M.ownV l n a) w) := by
  by_cases hyes : M.rightB l n = true ∧ 0 ≤ a ∧ a ≤ n
  · obtain ⟨hR, ha0, ha1⟩ := hyes
    obtain ⟨N, rfl⟩ : ∃ k : Nat, n = k := ⟨n.toNat, by omega⟩
    obtain ⟨a, rfl⟩ : ∃ k : Nat, a = k := ⟨a.toNat, by omega⟩
    exact callsIn_wide.1 (takeOwn_main A c l N a w hr hl hR (by omega))
  · exact takeOwn_arg A c l n a w hr hl h0 h1 hyes

end Go.Proofs.YtflghlmikpfnpaaDoor
