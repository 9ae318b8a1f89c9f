/-
  The iterator over a tree's nodes, each ahead of those below it, with its depth: for whatever loop body.
-/
import Derived.Test.YtkpefelakhbkhaaISum
import Derived.Test.YtkpefelakhbkhaaIRange
import Derived.Shelf.RegionOpen
import Derived.OwnWalkIn
import Derived.TacticsInMore
import Derived.LoopNIn
import Derived.LoopIn
namespace Go.Proofs.Ytkpefelakhbkhaa.I
open Go.RowKit Go.Shelf
attribute [local go_sem] Oper.semAt_some

/-- A node as the iterator hands it on: its One, its kids' slice, its depth. -/
structure It where
  o : Bool
  A : Option Addr
  n : Nat
  c : Nat
  d : Int
def It.key (x : It) : Bool × Nat × Int := (x.o, x.n, x.d)
def It.enc (x : It) : Array Value := #[tv x.o x.A x.n x.c, .int .i64 x.d]
def nx (d : Int) : Int := wrap64 (d + 1)
def walkK : Fo → Int → List (Bool × Nat × Int)
  | .nil, _ => []
  | .cons o ks rest, d => (o, ks.len, d) :: (walkK ks (nx d) ++ walkK rest d)
def walkT (o : Bool) (ks : Fo) (d : Int) : List (Bool × Nat × Int) := (o, ks.len, d) :: walkK ks (nx d)
theorem walkK_cons (o : Bool) (ks rest : Fo) (d : Int) : walkK (.cons o ks rest) d = walkT o ks d ++ walkK rest d := rfl
def Fo.size : Fo → Nat
  | .nil => 0
  | .cons _ ks rest => ks.size + rest.size + 1

set_option maxHeartbeats 1000000 in
theorem nodes_in (n : Nat) (o : Bool) (A : Option Addr) (k c : Nat) (d : Int) (w : World) :
    CallsIn Fence.wide n Try.prog 41 #[tv o A k c, .int .i64 d] w fun e w' => e = .returned (.func (.func 70) #[] #[.pointer (some ⟨w.heap.size, 0, none⟩), .pointer (some ⟨w.heap.size + 1, 0, none⟩)]) ∧
      (w.alloc (.cells #[.bool o, .slice A k c] 24)).alloc (.cells #[.int .i64 d] 3) = w' := by
  unfold tv
  refine callsIn_of_wp Try.func41 rfl trivial ?_ rfl
  simp only [Try.ntmps41, List.size_toArray, List.length_cons, List.length_nil, Nat.reduceAdd, Nat.reduceSub, Array.replicate_succ, Array.replicate_zero, List.push_toArray, List.append_toArray, List.nil_append, List.cons_append]
  gi_wp2
  go_ret
  exact ⟨rfl, rfl⟩

theorem InF.keep2 {w w' : World} {B : Nat} (hk : ∀ (p : Addr) (v : Value), p.block < B → w.cell? p = some v → w'.cell? p = some v) : ∀ {f : Fo} {b off : Nat}, b < B → InF w B f b off → InF w' B f b off
  | .nil, _, _, _, _ => trivial
  | .cons o ks rest, b, off, hb, ⟨⟨A, c, h1, h2, h3⟩, h4⟩ => by
    refine ⟨⟨A, c, hk _ _ hb h1, hk _ _ hb h2, ?_⟩, InF.keep2 hk hb h4⟩
    rcases h3 with h3 | ⟨b', off', e, hb', h3⟩
    · exact .inl h3
    · exact .inr ⟨b', off', e, hb', InF.keep2 hk hb' h3⟩
theorem Kd.keep2 {w w' : World} {B : Nat} (hk : ∀ (p : Addr) (v : Value), p.block < B → w.cell? p = some v → w'.cell? p = some v) {f : Fo} {A : Option Addr} (h : Kd w B f A) : Kd w' B f A := by
  rcases h with h | ⟨b, off, e, hb, h⟩
  · exact .inl h
  · exact .inr ⟨b, off, e, hb, h.keep2 hk hb⟩

/-- The cells of every block but those of X hold what they held. -/
def Holds (X : Nat → Prop) (Z W : World) : Prop := ∀ (p : Addr) (v : Value), ¬ X p.block → Z.cell? p = some v → W.cell? p = some v
theorem Holds.refl (X : Nat → Prop) (Z : World) : Holds X Z Z := fun _ _ _ h => h
theorem Holds.trans {X : Nat → Prop} {A B C : World} (h : Holds X A B) (g : Holds X B C) : Holds X A C := fun p v hx hc => g p v hx (h p v hx hc)
theorem Kept.holds {X : Nat → Prop} {A B : World} (h : Kept X A B) : Holds X A B := fun _ _ hx hc => h.cell hx hc
theorem Holds.own {β : Type} (X : Nat → Prop) (Z : World) : Own (fun (_ : β) W => Holds X Z W) := fun _ _ _ _ hs hg hr => fun p v hx hc => cell_kept (hs p v hx hc) hg hr
/-- Marks of loops that are over, the youngest first. -/
def Marks (W : World) : Nat → Nat → List Deferred → Prop
  | _, _, [] => True
  | L, B, d :: ds => ∃ D, d = { target := .collected D, args := #[] } ∧ L ≤ D ∧ D < B ∧ W.heap[D]? = some (.deferred (some [])) ∧ Marks W L D ds
theorem Marks.keep {W W' : World} : ∀ {L B : Nat} {ds : List Deferred}, (∀ k, L ≤ k → k < B → W.heap[k]? = some (.deferred (some [])) → W'.heap[k]? = some (.deferred (some []))) → Marks W L B ds → Marks W' L B ds
  | _, _, [], _, _ => trivial
  | _, _, _ :: _, hk, ⟨D, e, h1, h2, h3, h4⟩ => ⟨D, e, h1, h2, hk D h1 h2 h3, h4.keep fun k a b => hk k a (Nat.lt_trans b h2)⟩
theorem Marks.more {W : World} : ∀ {L B B' : Nat} {ds : List Deferred}, B ≤ B' → Marks W L B ds → Marks W L B' ds
  | _, _, _, [], _, _ => trivial
  | _, _, _, _ :: _, hb, ⟨D, e, h1, h2, h3, h4⟩ => ⟨D, e, h1, Nat.lt_of_lt_of_le h2 hb, h3, h4⟩
theorem Marks.own {β : Type} (L B : Nat) (ds : List Deferred) : OwnFrom B (fun (_ : β) W => Marks W L B ds) := fun _ _ _ _ hs hg hr =>
  hs.keep fun k _ hk h => (hg.block k (Array.getElem?_eq_some_iff.1 h).1 (fun e => by have := (hr _ e.symm).1; omega)).trans h
theorem own_more {β : Type} {B B' : Nat} {I : β → World → Prop} (h : OwnFrom B I) (hB : B ≤ B') : OwnFrom B' I := fun s W W' row hs hg hr => h s W W' row hs hg fun r e => ⟨Nat.le_trans hB (hr r e).1, (hr r e).2⟩
/-- A function without results leaves, its marks taken in one by one. -/
theorem leave_marks {P : Program} {fn : Func} {n : Nat} {tmps : Array Value} {R : Ending → World → Prop} (hres : fn.results = #[]) {L : Nat} (hR : ∀ W W' row, R (.returned (.tuple #[])) W → W.grownBy W' row → (∀ r, row = some r → L ≤ r ∧ ∃ o : Obj, W.heap[r]? = some o ∧ o.isCells = false) → R (.returned (.tuple #[])) W') :
    ∀ (ds : List Deferred) (B : Nat) (W : World), Marks W L B ds → R (.returned (.tuple #[])) W → LeavesInM Fence.wide n P fn tmps R ds .returning W
  | [], _, W, _, h => ⟨_, results_none hres _ _ _, h⟩
  | d :: ds, B, W, ⟨D, e, h1, h2, h3, h4⟩, h => by
    subst e
    refine ⟨by simp, .inl ⟨D, _, rfl, run_takeDeferred h3, leave_marks hres hR ds D _ (h4.keep fun k _ hk hd => (World.putObj_heap_other (by omega)).trans hd) (hR W _ (some D) h (grownBy_putObj' W D _) fun r e => by cases e; exact ⟨h1, _, h3, rfl⟩)⟩⟩

theorem round_in {m m' : Nat} (l' : Nat) {P : Program} {l : Nat} {f : FuncId} {tmps : Array Value} {assign body : Code} {w : World} {R : Ending → World → Prop}
    (h : RoundIn Fence.wide m P l f tmps assign body w R) : RoundIn (Fence.wide.inRound l') m' P l f tmps assign body w R := roundIn_deep (m' := m') h

set_option maxRecDepth 100000 in
set_option maxHeartbeats 4000000 in
theorem nodes_seq : ∀ (N : Nat) (o : Bool) (ks : Fo) (A : Option Addr) (c : Nat) (d : Int) (Bt Bd n₀ : Nat) (X : Nat → Prop) (Q G : It → Prop) (w : World), ks.size < N → (∀ x, G x → x.n = 0 ∨ x.n = 2) → (∀ x : It, x.key ∈ walkT o ks d → Q x) →
    Kd w n₀ ks A → n₀ ≤ w.heap.size → Bt < w.heap.size → Bd < w.heap.size → w.cell? ⟨Bt, 0, none⟩ = some (.bool o) → w.cell? ⟨Bt, 1, none⟩ = some (.slice A ks.len c) → w.cell? ⟨Bd, 0, none⟩ = some (.int .i64 d) → ¬ X Bt → ¬ X Bd → (∀ k, X k → n₀ ≤ k ∧ k < w.heap.size) →
    SeqO Try.prog 70 #[.pointer (some ⟨Bt, 0, none⟩), .pointer (some ⟨Bd, 0, none⟩)] It.enc X Q G (fun ys => ys.map It.key = walkT o ks d) (fun pre => pre.map It.key <+: walkT o ks d) w := by
  intro N
  induction N with
  | zero => intro o ks A c d Bt Bd n₀ X Q G w h; omega
  | succ N ih =>
  intro o ks A c d Bt Bd n₀ X Q G w hN hG hQ hk hn0 hBt hBd c0 c1 c2 hXt hXd hX l J Jx W hW hl1 hl2 hJ hJx hY h0
  refine (callsIn_wide (n := 3)).1 ?_
  have hJ0 : J [] (W.alloc (.cells #[.func (.yield l) #[] #[]] 83)) := hJ.alloc _ h0
  have t0 : (W.alloc (.cells #[.func (.yield l) #[] #[]] 83)).cell? ⟨Bt, 0, none⟩ = some (.bool o) := ((Below.refl _ W).alloc (Nat.le_refl _) _).cell (p := ⟨Bt, 0, none⟩) (Nat.lt_of_lt_of_le hBt hW.size) |>.trans ((hW.cell (p := ⟨Bt, 0, none⟩) hBt).trans c0)
  have t1 : (W.alloc (.cells #[.func (.yield l) #[] #[]] 83)).cell? ⟨Bt, 1, none⟩ = some (.slice A ks.len c) := ((Below.refl _ W).alloc (Nat.le_refl _) _).cell (p := ⟨Bt, 1, none⟩) (Nat.lt_of_lt_of_le hBt hW.size) |>.trans ((hW.cell (p := ⟨Bt, 1, none⟩) hBt).trans c1)
  have t2 : (W.alloc (.cells #[.func (.yield l) #[] #[]] 83)).cell? ⟨Bd, 0, none⟩ = some (.int .i64 d) := ((Below.refl _ W).alloc (Nat.le_refl _) _).cell (p := ⟨Bd, 0, none⟩) (Nat.lt_of_lt_of_le hBd hW.size) |>.trans ((hW.cell (p := ⟨Bd, 0, none⟩) hBd).trans c2)
  obtain ⟨fn, tmps, assign, body, hy, hR⟩ := hY [] ⟨o, A, ks.len, c, d⟩ _ hJ0 (hQ _ (by simp [It.key, walkT]))
  unfold It.enc tv at hy
  dsimp only at hy
  have HR := fun m => roundIn_deep (m' := m) hR
  clear hR
  have HH := Lib.hid (And.intro hQ (And.intro hk (And.intro hX (And.intro hY ih))))
  clear ih hQ hk hX hY
  refine callsIn_of_wp_marks Try.func70 rfl trivial ?_ rfl
  simp only [Try.ntmps70, List.size_toArray, List.length_cons, List.length_nil, Nat.reduceAdd, Nat.reduceSub, Array.replicate_succ, Array.replicate_zero, List.push_toArray, List.append_toArray, List.nil_append, List.cons_append]
  gi_wp2
  refine (HR _).mono ?_
  clear HR
  obtain ⟨Wy, hWy⟩ : ∃ Wy, W.alloc (.cells #[.func (.yield l) #[] #[]] 83) = Wy := ⟨_, rfl⟩
  have hyb : Wy.cell? ⟨W.heap.size, 0, none⟩ = some (.func (.yield l) #[] #[]) := by rw [← hWy]; simp [go_sem]
  have hsy : Wy.heap.size = W.heap.size + 1 := by rw [← hWy]; simp
  have hWy' : Below w.heap.size w Wy := by rw [← hWy]; exact hW.trans (((Below.refl _ W).alloc (Nat.le_refl _) _).mono hW.size)
  rw [hWy] at t0 t1 t2 ⊢
  clear hJ0 hy
  have hsz := hW.size
  have RR : ∀ (A B : World) (row : Option Nat), ((∃ v, Ending.returned (.tuple #[]) = .returned v) ∧ ((∃ xs : List It, xs.map It.key = walkT o ks d ∧ J xs A) ∨ ∃ pre : List It, pre.map It.key <+: walkT o ks d ∧ Jx pre A)) → A.grownBy B row → (∀ r, row = some r → W.heap.size ≤ r ∧ ∃ o : Obj, A.heap[r]? = some o ∧ o.isCells = false) →
      ((∃ v, Ending.returned (.tuple #[]) = .returned v) ∧ ((∃ xs : List It, xs.map It.key = walkT o ks d ∧ J xs B) ∨ ∃ pre : List It, pre.map It.key <+: walkT o ks d ∧ Jx pre B)) := by
    rintro A B row ⟨h1, h2⟩ hg hr
    refine ⟨h1, ?_⟩
    rcases h2 with ⟨xs, e, h⟩ | ⟨pre, e, h⟩
    · exact .inl ⟨xs, e, hJ xs A B row h hg hr⟩
    · exact .inr ⟨pre, e, hJx pre A B row h hg hr⟩
  have RR := Lib.hid RR
  rintro e W3 (⟨rfl, hg3, hj3, hk3⟩ | ⟨rfl, hx3, hk3⟩)
  · obtain ⟨hQ, hk, hX, hY, ih⟩ := HH.out
    have hX' : ∀ k, X k ∨ k = l → n₀ ≤ k ∧ k < W.heap.size := by
      rintro k (h | rfl)
      · have := hX k h; omega
      · omega
    have hold3 := hk3.holds
    have hXb : ∀ B, B < w.heap.size → ¬ X B → ¬ (X B ∨ B = l) := by
      rintro B hB hx (h | rfl)
      · exact hx h
      · omega
    have hXn : ∀ B, W.heap.size ≤ B → ¬ (X B ∨ B = l) := fun B hB h => by have := hX' B h; omega
    have s1 := hold3 ⟨Bt, 1, none⟩ _ (hXb Bt hBt hXt) t1
    have s2 := hold3 ⟨Bd, 0, none⟩ _ (hXb Bd hBd hXd) t2
    have s3 := hold3 ⟨W.heap.size, 0, none⟩ _ (hXn _ (Nat.le_refl _)) hyb
    have hmem : Kd W3 n₀ ks A := (hk.below (hWy'.mono hn0)).keep2 fun p v hp hc => hold3 p v (fun h => by have := hX' _ h; omega) hc
    have hsz3 : W.heap.size + 1 ≤ W3.heap.size := by have := hk3.size; omega
    rw [List.nil_append] at hj3
    have hlen : ks.len ≤ 2 := by rcases hG _ hg3 with h | h <;> (simp only at h; omega)
    clear t0 t1 t2 c0 c1 c2 hyb h0 hk hWy' hWy hold3 hk3 hg3
    have HY := Lib.hid (And.intro hQ (And.intro hX (And.intro hY ih)))
    clear HH hQ hX hY ih
    gi_wp2
    refine wpIn_loop (fun a Wr => ∃ (i : Nat) (fo : Fo) (pre : List It) (v5 v17 v18 v19 v20 v21 v22 v23 v31 : Value) (ds : List Deferred), a = { tmps := #[.func (.yield l) #[] #[], .pointer (some ⟨Bt, 0, none⟩), .pointer (some ⟨Bd, 0, none⟩), .pointer (some ⟨W.heap.size, 0, none⟩), undef, v5, undef, undef, .func (.yield l) #[] #[], .agg #[.bool o, .slice A ks.len c], .int .i64 d, .bool true, .bool false, .pointer (some ⟨Bt, 1, none⟩), .slice A ks.len c, .int .i64 (ks.len : Int), .int .i64 (i : Int), v17, v18, v19, v20, v21, v22, v23, undef, undef, undef, undef, undef, undef, undef, v31], defers := ds } ∧ Hid (i + fo.len = ks.len) ∧ Hid (fo.len = 0 ∨ ∃ b off, A = some ⟨b, off, none⟩ ∧ b < n₀ ∧ InF W3 n₀ fo b (off + i * 2)) ∧ Hid (fo.size ≤ ks.size) ∧ Hid (pre.map It.key ++ walkK fo (nx d) = walkT o ks d) ∧ J pre Wr ∧ Hid (Holds (fun k => X k ∨ k = l) W3 Wr) ∧ Hid (Marks Wr W.heap.size Wr.heap.size ds) ∧ W.heap.size + 1 ≤ Wr.heap.size) (fun a _ => ks.len - (intOf (a.tmps.getD 16 undef)).toNat) ?start ?round
    case start =>
      refine ⟨0, ks, [⟨o, A, ks.len, c, d⟩], undef, undef, undef, undef, undef, undef, undef, undef, undef, [], rfl, by show _ = _; omega, ?_, Nat.le_refl _, ?_, hj3, Holds.refl _ _, trivial, hsz3⟩
      · rcases hmem with h | ⟨b, off, e, hb, h⟩
        · exact .inl h
        · exact .inr ⟨b, off, e, hb, by rw [Nat.zero_mul, Nat.add_zero]; exact h⟩
      · show _ = _; simp [It.key, walkT]
    case round =>
      rintro a Wr ⟨i, fo, pre, v5, v17, v18, v19, v20, v21, v22, v23, v31, ds, rfl, hi, hfo, hfs, hpre, hJr, hH, hM, hsr⟩
      have r1 := hH.out _ _ (hXb Bt hBt hXt) s1
      have r2 := hH.out _ _ (hXb Bd hBd hXd) s2
      have r3 := hH.out _ _ (hXn _ (Nat.le_refl _)) s3
      clear s1 s2 s3 hj3 hmem
      cases fo with
      | nil =>
        have hin : i = ks.len := by have := hi.out; simp [Fo.len] at this; exact this
        subst hin
        have HP : Hid (pre.map It.key = walkT o ks d) := by show _ = _; have := hpre.out; simpa [walkK] using this
        gi_wp2
        exact leave_marks rfl (L := W.heap.size) RR.out ds _ _ hM.out ⟨⟨_, rfl⟩, .inl ⟨pre, HP.out, hJr⟩⟩
      | cons o1 k1 rest =>
        have hlt : i < ks.len := by have := hi.out; simp [Fo.len] at this; omega
        obtain ⟨b, off, hA, hb, ⟨A1, c1, m1, m2, m3⟩, m4⟩ : ∃ b off, A = some ⟨b, off, none⟩ ∧ b < n₀ ∧ InF W3 n₀ (.cons o1 k1 rest) b (off + i * 2) := by
          rcases hfo.out with h | h
          · simp [Fo.len] at h
          · exact h
        have hXm : ∀ B, B < n₀ → ¬ (X B ∨ B = l) := fun B hB h => by have := hX' B h; omega
        have g1 := hH.out _ _ (hXm b hb) m1
        have g2 := hH.out _ _ (hXm b hb) m2
        have hm3 : Kd Wr n₀ k1 A1 := Kd.keep2 (fun p v hp hc => hH.out p v (hXm _ hp) hc) (w := W3) m3
        subst hA
        have r2a : (Wr.alloc (.cells #[.bool o1, .slice A1 k1.len c1] 24)).cell? ⟨Bd, 0, none⟩ = some (.int .i64 d) := (((Below.refl _ Wr).alloc (Nat.le_refl _) _).cell (p := ⟨Bd, 0, none⟩) (by show Bd < Wr.heap.size; omega)).trans r2
        gi_wp2_with (refine ⟨trivial, ?_⟩; gi_at_call 41; refine (nodes_in _ o1 A1 k1.len c1 _ _).mono ?_; rintro e w' ⟨rfl, rfl⟩)
        obtain ⟨Wa, hWa⟩ : ∃ Wa, ((Wr.alloc (.cells #[.bool o1, .slice A1 k1.len c1] 24)).alloc (.cells #[.bool o1, .slice A1 k1.len c1] 24)).alloc (.cells #[.int .i64 (wrap64 (d + 1))] 3) = Wa := ⟨_, rfl⟩
        have hsa : Wa.heap.size = Wr.heap.size + 3 := by rw [← hWa]; simp
        have hka : Below Wr.heap.size Wr Wa := by rw [← hWa]; exact three_boxes Wr _ _ _
        have a0 : Wa.cell? ⟨Wr.heap.size + 1, 0, none⟩ = some (.bool o1) := by rw [← hWa]; simp [go_sem]
        have a1 : Wa.cell? ⟨Wr.heap.size + 1, 1, none⟩ = some (.slice A1 k1.len c1) := by rw [← hWa]; simp [go_sem]
        have a2 : Wa.cell? ⟨Wr.heap.size + 1 + 1, 0, none⟩ = some (.int .i64 (nx d)) := by rw [← hWa]; simp [go_sem, nx]
        have a3 : Wa.cell? ⟨W.heap.size, 0, none⟩ = some (.func (.yield l) #[] #[]) := (hka.cell (p := ⟨W.heap.size, 0, none⟩) (by show W.heap.size < Wr.heap.size; omega)).trans r3
        have aJ : J pre Wa := by rw [← hWa]; exact hJ.alloc _ (hJ.alloc _ (hJ.alloc _ hJr))
        have aM : Marks Wa W.heap.size Wa.heap.size ds := (hM.out.keep fun k _ hk h => (hka.block k hk).trans h).more (by omega)
        have aK : Kd Wa n₀ k1 A1 := hm3.keep2 fun p v hp hc => (hka.cell (by have := hW.size; omega)).trans hc
        have aH : Holds (fun k => X k ∨ k = l) W3 Wa := hH.out.trans fun p v hx hc => (hka.cell (Array.getElem?_eq_some_iff.1 (cells_of_cell hc).choose_spec.1).1).trans hc
        rw [hWa]
        obtain ⟨hQ, hX, hY, ih⟩ := HY.out
        have hQ1 : ∀ x : It, x.key ∈ walkT o1 k1 (nx d) → Q x := fun x hx => hQ x (by rw [← hpre.out, walkK_cons]; simp [hx])
        have hseq := ih o1 k1 A1 c1 (nx d) (Wr.heap.size + 1) (Wr.heap.size + 1 + 1) n₀ (fun k => X k ∨ k = l) Q G Wa (by have := hfs.out; simp only [Fo.size] at this; omega) hG hQ1 aK (by omega) (by omega) (by omega) a0 a1 a2
          (hXn _ (by omega)) (hXn _ (by omega)) (fun k h => by have := hX' k h; omega)
        clear ih hWa r1 r2 r3 r2a g1 g2 m1 m2 m3 hm3 hJr HY
        have HP := Lib.hid hpre.out; clear hpre
        refine range_own (gf := 70) (lb := #[.pointer (some ⟨Wr.heap.size + 1, 0, none⟩), .pointer (some ⟨Wr.heap.size + 1 + 1, 0, none⟩)]) rfl (enters_of Try.func70 (by kernel_rfl) rfl) hseq (fun k h => by have := hX' k h; omega) (Below.refl _ _) (fun _ => rfl)
          (fun q V => J (pre ++ q) V ∧ Holds (fun k => X k ∨ k = l) Wa V ∧ Marks V W.heap.size Wa.heap.size ds)
          (fun cd q V => cd = .ret ∧ Jx (pre ++ q) V ∧ Marks V W.heap.size Wa.heap.size ds)
          (OwnFrom.and (fun q V V' row hs hg hr => (own_more hJ (by omega)) (pre ++ q) V V' row hs hg hr) (OwnFrom.and ((Holds.own _ _).from _) (Marks.own _ _ _)))
          (fun cd => OwnFrom.and (ownFrom_pure _ _) (OwnFrom.and (fun q V V' row hs hg hr => (own_more hJx (by omega)) (pre ++ q) V V' row hs hg hr) (Marks.own _ _ _)))
          ⟨by rw [List.append_nil]; exact aJ, Holds.refl _ _, aM⟩
          (fun x a' V => ∃ Bx, V.cell? ⟨Bx, 0, none⟩ = some (.bool x.o) ∧ V.cell? ⟨Bx, 1, none⟩ = some (.slice x.A x.n x.c) ∧ a' = { tmps := #[.func (.yield l) #[] #[], .pointer (some ⟨Bt, 0, none⟩), .pointer (some ⟨Bd, 0, none⟩), .pointer (some ⟨W.heap.size, 0, none⟩), undef, .pointer (some ⟨Wr.heap.size, 0, none⟩), .pointer (some ⟨Bx, 0, none⟩), .int .i64 x.d, .func (.yield l) #[] #[], .agg #[.bool o, .slice (some ⟨b, off, none⟩) ks.len c], .int .i64 d, .bool true, .bool false, .pointer (some ⟨Bt, 1, none⟩), .slice (some ⟨b, off, none⟩) ks.len c, .int .i64 (ks.len : Int), .int .i64 (i : Int), .bool true, .pointer (some ⟨b, off + i * 2, none⟩), .agg #[.bool o1, .slice A1 k1.len c1], .agg #[.bool o1, .slice A1 k1.len c1], .int .i64 d, .int .i64 (wrap64 (d + 1)), .func (.func 70) #[] #[.pointer (some ⟨Wr.heap.size + 1, 0, none⟩), .pointer (some ⟨Wr.heap.size + 1 + 1, 0, none⟩)], tv x.o x.A x.n x.c, .int .i64 x.d, undef, undef, undef, undef, undef, v31], defers := [] })
          (fun x a' _ V V' row hs hg hr => by
            obtain ⟨Bx, b0, b1, e⟩ := hs
            exact ⟨Bx, cell_kept b0 hg (fun r e => (hr r e).2), cell_kept b1 hg (fun r e => (hr r e).2), e⟩) ?assign ?body ?done ?stop
        case assign =>
          rintro l' q x V K hsv ⟨hj, hh, hm⟩ hK
          unfold It.enc tv
          dsimp only
          gi_wp2
          exact hK _ _ ((Kept.refl _ V).alloc _) ⟨hJ (pre ++ q) V _ none hj (World.grownBy_alloc V _ none) (fun r e => by cases e), (Holds.own (β := Unit) (fun k => X k ∨ k = l) Wa) () V _ none hh (World.grownBy_alloc V _ none) (fun r e => by cases e), (Marks.own (β := Unit) W.heap.size Wa.heap.size ds) () V _ none hm (World.grownBy_alloc V _ none) (fun r e => by cases e)⟩ ⟨V.heap.size, by simp [go_sem], by simp [go_sem], rfl⟩
        case body =>
          rintro l' q x a' V hsv ⟨hj, hh, hm⟩ ⟨Bx, b0, b1, rfl⟩ hq
          have b3 := hh _ _ (hXn _ (Nat.le_refl _)) a3
          obtain ⟨fn2, tmps2, assign2, body2, hy2, hR2⟩ := hY (pre ++ q) x V hj hq
          unfold It.enc tv at hy2
          have hR3 := fun m => round_in (m' := m) l' hR2
          clear hR2 hY hseq hQ hQ1 a0 a1 a2 a3 aJ aM aK aH
          have HMk : ∀ V', Kept (fun k => X k ∨ k = l) V V' → Marks V' W.heap.size Wa.heap.size ds := fun V' hk' => hm.keep fun k hk1 hk2 h => (hk'.same k (Array.getElem?_eq_some_iff.1 h).1 (hXn k hk1)).trans h
          gi_wp2
          refine (hR3 _).mono ?_
          rintro e V2 (⟨rfl, hg2, hj2, hk2⟩ | ⟨rfl, hx2, hk2⟩)
          · gi_wp2
            exact ⟨hk2, hg2, by rw [← List.append_assoc]; exact hj2, hh.trans hk2.holds, HMk V2 hk2⟩
          · gi_wp2
            exact ⟨hk2, rfl, by rw [← List.append_assoc]; exact hx2, HMk V2 hk2⟩
        case done =>
          rintro D xs V hD hxs ⟨hj, hh, hm⟩ hdf
          clear hY hseq hQ hQ1 a0 a1 a2 a3 aJ aM aK
          have hDv := (Array.getElem?_eq_some_iff.1 hdf).1
          have hi2 := hi.out
          have hfs2 := hfs.out
          simp only [Fo.len] at hi2
          simp only [Fo.size] at hfs2
          gi_wp2
          refine ⟨⟨i + 1, rest, pre ++ xs, _, _, _, _, _, _, _, _, _, _, rfl, by show _ = _; omega, .inr ⟨b, off, rfl, hb, ?_⟩, by show _ ≤ _; omega, ?_, hj, aH.trans hh, ⟨D, rfl, by omega, hDv, hdf, hm.more hD⟩, by omega⟩, ?_⟩
          · rw [show off + (i + 1) * 2 = off + i * 2 + 2 by omega]; exact m4
          · show _ = _
            rw [← HP.out, walkK_cons, List.map_append, hxs, List.append_assoc]
          · simp [intOf]; omega
        case stop =>
          rintro D cd q V hD hq ⟨rfl, hx, hm⟩ hdf
          clear hY hseq hQ hQ1 a0 a1 a2 a3 aJ aM aK
          gi_wp2
          refine leave_marks rfl (L := W.heap.size) RR.out _ (D + 1) _ ⟨D, rfl, by omega, by omega, hdf, hm.more hD⟩ ⟨⟨_, rfl⟩, .inr ⟨_, ?_, hx⟩⟩
          rw [List.map_append, ← HP.out, walkK_cons]
          exact (List.prefix_append_right_inj _).2 (hq.trans (List.prefix_append _ _))
  · clear t0 t1 t2
    gi_wp2
    refine leave_marks rfl (L := W.heap.size) RR.out [] 0 _ trivial ⟨⟨_, rfl⟩, .inr ⟨_, ?_, hx3⟩⟩
    simp [It.key, walkT]
end Go.Proofs.Ytkpefelakhbkhaa.I
