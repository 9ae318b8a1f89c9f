/-
  The iterator over a tree's nodes, each ahead of those below it, with its place: for whatever loop body.
-/
import Derived.Test.YtflghlmikpfnpaaDoorETree
import Derived.Test.YtflghlmikpfnpaaDoorERange
import Derived.Shelf.RegionOpen
import Derived.OwnWalkIn
import Derived.TacticsInMore
import Derived.LoopNIn
import Derived.LoopIn
namespace Go.Proofs.YtflghlmikpfnpaaDoor.E
open Go.RowKit Go.Shelf
attribute [local go_sem] Oper.semAt_some

/-- A node as the iterator hands it on: its N, its kids' slice, its depth, what is above. -/
structure It where
  o : Int
  A : Option Addr
  n : Nat
  c : Nat
  d : Int
  s : Int
def It.key (x : It) : Key := (x.o, x.n, x.d, x.s)
def It.enc (x : It) : Array Value := #[tv x.o x.A x.n x.c, .agg #[.int .i64 x.d, .int .i64 x.s]]

set_option maxHeartbeats 1000000 in
theorem nodes_in (n : Nat) (o : Int) (A : Option Addr) (k c : Nat) (d s : Int) (w : World) :
    CallsIn Fence.wide n Tryd.prog 41 #[tv o A k c, .agg #[.int .i64 d, .int .i64 s]] w fun e w' => e = .returned (.func (.func 73) #[] #[.pointer (some ⟨w.heap.size, 0, none⟩), .pointer (some ⟨w.heap.size + 1, 0, none⟩)]) ∧
      (w.alloc (.cells #[.int .i64 o, .slice A k c] 24)).alloc (.cells #[.int .i64 d, .int .i64 s] 58) = w' := by
  unfold tv
  refine callsIn_of_wp Tryd.func41 rfl trivial ?_ rfl
  simp only [Tryd.ntmps41, List.size_toArray, List.length_cons, List.length_nil, Nat.reduceAdd, Nat.reduceSub, Array.replicate_succ, Array.replicate_zero, List.push_toArray, List.append_toArray, List.nil_append, List.cons_append]
  gi_wp2
  go_ret
  exact ⟨rfl, rfl⟩

/-- The cells of every block but those of X hold what they held. -/
def Holds (X : Nat → Prop) (Z W : World) : Prop := ∀ (p : Addr) (v : Value), ¬ X p.block → Z.cell? p = some v → W.cell? p = some v
theorem Holds.refl (X : Nat → Prop) (Z : World) : Holds X Z Z := fun _ _ _ h => h
theorem Holds.trans {X : Nat → Prop} {A B C : World} (h : Holds X A B) (g : Holds X B C) : Holds X A C := fun p v hx hc => g p v hx (h p v hx hc)
theorem Kept.holds {X : Nat → Prop} {A B : World} (h : Kept X A B) : Holds X A B := fun _ _ hx hc => h.cell hx hc
theorem Holds.own {β : Type} (X : Nat → Prop) (Z : World) : Own (fun (_ : β) W => Holds X Z W) := fun _ _ _ _ hs hg hr => fun p v hx hc => cell_kept (hs p v hx hc) hg hr
/-- Marks of loops that are over, the youngest first. -/
def Marks (W : World) : Nat → Nat → List Deferred → Prop
  | _, _, [] => True
  | L, B, d :: ds => ∃ D, d = { target := .collected D, args := #[] } ∧ L ≤ D ∧ D < B ∧ W.heap[D]? = some (.deferred (some [])) ∧ Marks W L D ds
theorem Marks.keep {W W' : World} : ∀ {L B : Nat} {ds : List Deferred}, (∀ k, L ≤ k → k < B → W.heap[k]? = some (.deferred (some [])) → W'.heap[k]? = some (.deferred (some []))) → Marks W L B ds → Marks W' L B ds
  | _, _, [], _, _ => trivial
  | _, _, _ :: _, hk, ⟨D, e, h1, h2, h3, h4⟩ => ⟨D, e, h1, h2, hk D h1 h2 h3, h4.keep fun k a b => hk k a (Nat.lt_trans b h2)⟩
theorem Marks.more {W : World} : ∀ {L B B' : Nat} {ds : List Deferred}, B ≤ B' → Marks W L B ds → Marks W L B' ds
  | _, _, _, [], _, _ => trivial
  | _, _, _, _ :: _, hb, ⟨D, e, h1, h2, h3, h4⟩ => ⟨D, e, h1, Nat.lt_of_lt_of_le h2 hb, h3, h4⟩
theorem Marks.own {β : Type} (L B : Nat) (ds : List Deferred) : OwnFrom B (fun (_ : β) W => Marks W L B ds) := fun _ _ _ _ hs hg hr =>
  hs.keep fun k _ hk h => (hg.block k (Array.getElem?_eq_some_iff.1 h).1 (fun e => by have := (hr _ e.symm).1; omega)).trans h
theorem own_more {β : Type} {B B' : Nat} {I : β → World → Prop} (h : OwnFrom B I) (hB : B ≤ B') : OwnFrom B' I := fun s W W' row hs hg hr => h s W W' row hs hg fun r e => ⟨Nat.le_trans hB (hr r e).1, (hr r e).2⟩
/-- A function without results leaves, its marks taken in one by one. -/
theorem leave_marks {P : Program} {fn : Func} {n : Nat} {tmps : Array Value} {R : Ending → World → Prop} (hres : fn.results = #[]) {L : Nat} (hR : ∀ W W' row, R (.returned (.tuple #[])) W → W.grownBy W' row → (∀ r, row = some r → L ≤ r ∧ ∃ o : Obj, W.heap[r]? = some o ∧ o.isCells = false) → R (.returned (.tuple #[])) W') :
    ∀ (ds : List Deferred) (B : Nat) (W : World), Marks W L B ds → R (.returned (.tuple #[])) W → LeavesInM Fence.wide n P fn tmps R ds .returning W
  | [], _, W, _, h => ⟨_, results_none hres _ _ _, h⟩
  | d :: ds, B, W, ⟨D, e, h1, h2, h3, h4⟩, h => by
    subst e
    refine ⟨by simp, .inl ⟨D, _, rfl, run_takeDeferred h3, leave_marks hres hR ds D _ (h4.keep fun k _ hk hd => (World.putObj_heap_other (by omega)).trans hd) (hR W _ (some D) h (grownBy_putObj' W D _) fun r e => by cases e; exact ⟨h1, _, h3, rfl⟩)⟩⟩

theorem round_in {m m' : Nat} (l' : Nat) {P : Program} {l : Nat} {f : FuncId} {tmps : Array Value} {assign body : Code} {w : World} {R : Ending → World → Prop}
    (h : RoundIn Fence.wide m P l f tmps assign body w R) : RoundIn (Fence.wide.inRound l') m' P l f tmps assign body w R := roundIn_deep (m' := m') h

set_option maxRecDepth 100000 in
set_option maxHeartbeats 4000000 in
theorem nodes_seq (P : Nat → Prop) : ∀ (N : Nat) (o : Int) (ks : Fo) (A : Option Addr) (c : Nat) (d s : Int) (Bt Bd : Nat) (X : Nat → Prop) (Q : List It → It → Prop) (G : It → Prop) (w : World), ks.size < N → (∀ x, G x → x.n = 0 ∨ x.n = 2) → (∀ (pre : List It) (x : It), pre.map It.key ++ [x.key] <+: walkT o ks d s → Q pre x) →
    Kd P w ks A → (∀ b, P b → b < w.heap.size) → Bt < w.heap.size → Bd < w.heap.size → w.cell? ⟨Bt, 0, none⟩ = some (.int .i64 o) → w.cell? ⟨Bt, 1, none⟩ = some (.slice A ks.len c) → w.cell? ⟨Bd, 0, none⟩ = some (.int .i64 d) → w.cell? ⟨Bd, 1, none⟩ = some (.int .i64 s) → ¬ X Bt → ¬ X Bd → (∀ k, X k → ¬ P k ∧ k < w.heap.size) →
    SeqQ Tryd.prog 73 #[.pointer (some ⟨Bt, 0, none⟩), .pointer (some ⟨Bd, 0, none⟩)] It.enc X Q G (fun ys => ys.map It.key = walkT o ks d s) (fun pre => pre.map It.key <+: walkT o ks d s) w := by
  intro N
  induction N with
  | zero => intro o ks A c d s Bt Bd X Q G w h; omega
  | succ N ih =>
  intro o ks A c d s Bt Bd X Q G w hN hG hQ hk hP hBt hBd c0 c1 c2 c3 hXt hXd hX l J Jx W hW hl1 hl2 hJ hJx hY h0
  refine (callsIn_wide (n := 3)).1 ?_
  have hJ0 : J [] (W.alloc (.cells #[.func (.yield l) #[] #[]] 91)) := hJ.alloc _ h0
  have keep0 : ∀ {b i : Nat} {v : Value}, b < w.heap.size → w.cell? ⟨b, i, none⟩ = some v → (W.alloc (.cells #[.func (.yield l) #[] #[]] 91)).cell? ⟨b, i, none⟩ = some v := fun {b i v} hb hc => ((Below.refl _ W).alloc (Nat.le_refl _) _).cell (p := ⟨b, i, none⟩) (Nat.lt_of_lt_of_le hb hW.size) |>.trans ((hW.cell (p := ⟨b, i, none⟩) hb).trans hc)
  have t0 := keep0 hBt c0
  have t1 := keep0 hBt c1
  have t2 := keep0 hBd c2
  have t3 := keep0 hBd c3
  clear keep0
  obtain ⟨fn, tmps, assign, body, hy, hR⟩ := hY [] ⟨o, A, ks.len, c, d, s⟩ _ hJ0 (hQ [] _ (by simp [It.key, walkT]))
  unfold It.enc tv at hy
  dsimp only at hy
  have HR := fun m => roundIn_deep (m' := m) hR
  clear hR
  have HH := Lib.hid (And.intro hQ (And.intro hk (And.intro hX (And.intro hY (And.intro ih hP)))))
  clear ih hQ hk hX hY hP
  refine callsIn_of_wp_marks Tryd.func73 rfl trivial ?_ rfl
  simp only [Tryd.ntmps73, List.size_toArray, List.length_cons, List.length_nil, Nat.reduceAdd, Nat.reduceSub, Array.replicate_succ, Array.replicate_zero, List.push_toArray, List.append_toArray, List.nil_append, List.cons_append]
  gi_wp2
  refine (HR _).mono ?_
  clear HR
  obtain ⟨Wy, hWy⟩ : ∃ Wy, W.alloc (.cells #[.func (.yield l) #[] #[]] 91) = Wy := ⟨_, rfl⟩
  have hyb : Wy.cell? ⟨W.heap.size, 0, none⟩ = some (.func (.yield l) #[] #[]) := by rw [← hWy]; simp [go_sem]
  have hsy : Wy.heap.size = W.heap.size + 1 := by rw [← hWy]; simp
  have hWy' : Below w.heap.size w Wy := by rw [← hWy]; exact hW.trans (((Below.refl _ W).alloc (Nat.le_refl _) _).mono hW.size)
  rw [hWy] at t0 t1 t2 t3 ⊢
  clear hJ0 hy
  have hsz := hW.size
  have RR : ∀ (A B : World) (row : Option Nat), ((∃ v, Ending.returned (.tuple #[]) = .returned v) ∧ ((∃ xs : List It, xs.map It.key = walkT o ks d s ∧ J xs A) ∨ ∃ pre : List It, pre.map It.key <+: walkT o ks d s ∧ Jx pre A)) → A.grownBy B row → (∀ r, row = some r → W.heap.size ≤ r ∧ ∃ o : Obj, A.heap[r]? = some o ∧ o.isCells = false) →
      ((∃ v, Ending.returned (.tuple #[]) = .returned v) ∧ ((∃ xs : List It, xs.map It.key = walkT o ks d s ∧ J xs B) ∨ ∃ pre : List It, pre.map It.key <+: walkT o ks d s ∧ Jx pre B)) := by
    rintro A B row ⟨h1, h2⟩ hg hr
    refine ⟨h1, ?_⟩
    rcases h2 with ⟨xs, e, h⟩ | ⟨pre, e, h⟩
    · exact .inl ⟨xs, e, hJ xs A B row h hg hr⟩
    · exact .inr ⟨pre, e, hJx pre A B row h hg hr⟩
  have RR := Lib.hid RR
  rintro e W3 (⟨rfl, hg3, hj3, hk3⟩ | ⟨rfl, hx3, hk3⟩)
  · obtain ⟨hQ, hk, hX, hY, ih, hP⟩ := HH.out
    have hX' : ∀ k, X k ∨ k = l → ¬ P k ∧ k < W.heap.size := by
      rintro k (h | rfl)
      · have := hX k h; exact ⟨this.1, by omega⟩
      · exact ⟨fun h => absurd (hP _ h) (by omega), by omega⟩
    have hold3 := hk3.holds
    have hXb : ∀ B, B < w.heap.size → ¬ X B → ¬ (X B ∨ B = l) := by
      rintro B hB hx (h | rfl)
      · exact hx h
      · omega
    have hXn : ∀ B, W.heap.size ≤ B → ¬ (X B ∨ B = l) := fun B hB h => by have := (hX' B h).2; omega
    have s0 := hold3 ⟨Bt, 0, none⟩ _ (hXb Bt hBt hXt) t0
    have s1 := hold3 ⟨Bt, 1, none⟩ _ (hXb Bt hBt hXt) t1
    have s2 := hold3 ⟨Bd, 0, none⟩ _ (hXb Bd hBd hXd) t2
    have s2b := hold3 ⟨Bd, 1, none⟩ _ (hXb Bd hBd hXd) t3
    have s3 := hold3 ⟨W.heap.size, 0, none⟩ _ (hXn _ (Nat.le_refl _)) hyb
    have hmem : Kd P W3 ks A := (hk.keep fun p v hp hc => (hWy'.cell (hP _ hp)).trans hc).keep fun p v hp hc => hold3 p v (fun h => (hX' _ h).1 hp) hc
    have hsz3 : W.heap.size + 1 ≤ W3.heap.size := by have := hk3.size; omega
    rw [List.nil_append] at hj3
    have hlen : ks.len ≤ 2 := by rcases hG _ hg3 with h | h <;> (simp only at h; omega)
    obtain ⟨W4, hW4⟩ : ∃ W4, W3.alloc (.cells #[.int .i64 (wrap64 (d + 1)), .int .i64 (wrap64 (s + o))] 58) = W4 := ⟨_, rfl⟩
    have hb4 : Below W3.heap.size W3 W4 := by rw [← hW4]; exact (Below.refl _ W3).alloc (Nat.le_refl _) _
    have hs4 : W4.heap.size = W3.heap.size + 1 := by rw [← hW4]; simp
    have hj4 : J [⟨o, A, ks.len, c, d, s⟩] W4 := by rw [← hW4]; exact hJ.alloc _ hj3
    have u1 : W4.cell? ⟨Bt, 1, none⟩ = some (.slice A ks.len c) := (hb4.cell (World.block_lt_of_cell? W3 _ s1)).trans s1
    have u3 : W4.cell? ⟨W.heap.size, 0, none⟩ = some (.func (.yield l) #[] #[]) := (hb4.cell (World.block_lt_of_cell? W3 _ s3)).trans s3
    have u4 : W4.cell? ⟨W3.heap.size, 0, none⟩ = some (.int .i64 (wrap64 (d + 1))) := by rw [← hW4]; simp [go_sem]
    have u5 : W4.cell? ⟨W3.heap.size, 1, none⟩ = some (.int .i64 (wrap64 (s + o))) := by rw [← hW4]; simp [go_sem]
    have hmem4 : Kd P W4 ks A := hmem.keep fun p v _ hc => (hb4.cell (World.block_lt_of_cell? W3 p hc)).trans hc
    clear t0 t1 t2 t3 c0 c1 c2 c3 hyb h0 hk hWy' hWy hold3 hk3 hg3
    have HY := Lib.hid (And.intro hQ (And.intro hX (And.intro hY (And.intro ih hP))))
    clear HH hQ hX hY ih hP hb4 hmem hj3
    gi_wp2
    clear s0 s1 s2 s2b s3 hW4
    obtain ⟨Bb, hBb⟩ : ∃ Bb, W3.heap.size = Bb := ⟨_, rfl⟩
    rw [hBb] at u4 u5 ⊢
    have hBbn : W.heap.size ≤ Bb := by omega
    refine wpIn_loop (fun a Wr => ∃ (i : Nat) (fo : Fo) (pre : List It) (v6 v27 v28 v29 v30 v31 v32 v40 : Value) (ds : List Deferred), a = { tmps := #[.func (.yield l) #[] #[], .pointer (some ⟨Bt, 0, none⟩), .pointer (some ⟨Bd, 0, none⟩), .pointer (some ⟨W.heap.size, 0, none⟩), .pointer (some ⟨Bb, 0, none⟩), undef, v6, undef, undef, .func (.yield l) #[] #[], .agg #[.int .i64 o, .slice A ks.len c], .agg #[.int .i64 d, .int .i64 s], .bool true, .bool false, .pointer (some ⟨Bd, 0, none⟩), .int .i64 d, .int .i64 (wrap64 (d + 1)), .pointer (some ⟨Bd, 1, none⟩), .int .i64 s, .pointer (some ⟨Bt, 0, none⟩), .int .i64 o, .int .i64 (wrap64 (s + o)), .agg #[.int .i64 (wrap64 (d + 1)), .int .i64 (wrap64 (s + o))], .pointer (some ⟨Bt, 1, none⟩), .slice A ks.len c, .int .i64 (ks.len : Int), .int .i64 (i : Int), v27, v28, v29, v30, v31, v32, undef, undef, undef, undef, undef, undef, undef, v40], defers := ds } ∧ Hid (i + fo.len = ks.len) ∧ Hid (fo.len = 0 ∨ ∃ b off, A = some ⟨b, off, none⟩ ∧ P b ∧ InF P W4 fo b (off + i * 2)) ∧ Hid (fo.size ≤ ks.size) ∧ Hid (pre.map It.key ++ walkK fo (wrap64 (d + 1)) (wrap64 (s + o)) = walkT o ks d s) ∧ J pre Wr ∧ Hid (Holds (fun k => X k ∨ k = l) W4 Wr) ∧ Hid (Marks Wr W.heap.size Wr.heap.size ds) ∧ W.heap.size + 1 ≤ Wr.heap.size) (fun a _ => ks.len - (intOf (a.tmps.getD 26 undef)).toNat) ?start ?round
    case start =>
      refine ⟨0, ks, [⟨o, A, ks.len, c, d, s⟩], undef, undef, undef, undef, undef, undef, undef, undef, [], rfl, by show _ = _; omega, ?_, Nat.le_refl _, ?_, hj4, Holds.refl _ _, trivial, by omega⟩
      · rcases hmem4 with h | ⟨b, off, e, hb, h⟩
        · exact .inl h
        · exact .inr ⟨b, off, e, hb, by rw [Nat.zero_mul, Nat.add_zero]; exact h⟩
      · show _ = _; simp [It.key, walkT]
    case round =>
      rintro a Wr ⟨i, fo, pre, v6, v27, v28, v29, v30, v31, v32, v40, ds, rfl, hi, hfo, hfs, hpre, hJr, hH, hM, hsr⟩
      have r1 := hH.out _ _ (hXb Bt hBt hXt) u1
      have r3 := hH.out _ _ (hXn _ (Nat.le_refl _)) u3
      have r4 := hH.out _ _ (hXn _ hBbn) u4
      have r5 := hH.out _ _ (hXn _ hBbn) u5
      clear u1 u3 u4 u5 hj4 hmem4
      cases fo with
      | nil =>
        have hin : i = ks.len := by have := hi.out; simp [Fo.len] at this; exact this
        subst hin
        have HP : Hid (pre.map It.key = walkT o ks d s) := by show _ = _; have := hpre.out; simpa [walkK] using this
        gi_wp2
        exact leave_marks rfl (L := W.heap.size) RR.out ds _ _ hM.out ⟨⟨_, rfl⟩, .inl ⟨pre, HP.out, hJr⟩⟩
      | cons o1 k1 rest =>
        have hlt : i < ks.len := by have := hi.out; simp [Fo.len] at this; omega
        obtain ⟨b, off, hA, hb, ⟨A1, c1, m1, m2, m3⟩, m4⟩ : ∃ b off, A = some ⟨b, off, none⟩ ∧ P b ∧ InF P W4 (.cons o1 k1 rest) b (off + i * 2) := by
          rcases hfo.out with h | h
          · simp [Fo.len] at h
          · exact h
        have hXm : ∀ B, P B → ¬ (X B ∨ B = l) := fun B hB h => (hX' B h).1 hB
        have g1 := hH.out _ _ (hXm b hb) m1
        have g2 := hH.out _ _ (hXm b hb) m2
        have hm3 : Kd P Wr k1 A1 := Kd.keep (fun p v hp hc => hH.out p v (hXm _ hp) hc) (w := W4) m3
        subst hA
        have hBbr : Bb < Wr.heap.size := World.block_lt_of_cell? Wr _ r4
        have r4a : (Wr.alloc (.cells #[.int .i64 o1, .slice A1 k1.len c1] 24)).cell? ⟨Bb, 0, none⟩ = some (.int .i64 (wrap64 (d + 1))) := (((Below.refl _ Wr).alloc (Nat.le_refl _) _).cell (p := ⟨Bb, 0, none⟩) hBbr).trans r4
        have r5a : (Wr.alloc (.cells #[.int .i64 o1, .slice A1 k1.len c1] 24)).cell? ⟨Bb, 1, none⟩ = some (.int .i64 (wrap64 (s + o))) := (((Below.refl _ Wr).alloc (Nat.le_refl _) _).cell (p := ⟨Bb, 1, none⟩) hBbr).trans r5
        gi_wp2_with (refine ⟨trivial, ?_⟩; gi_at_call 41; refine (nodes_in _ o1 A1 k1.len c1 _ _ _).mono ?_; rintro e w' ⟨rfl, rfl⟩)
        obtain ⟨Wa, hWa⟩ : ∃ Wa, ((Wr.alloc (.cells #[.int .i64 o1, .slice A1 k1.len c1] 24)).alloc (.cells #[.int .i64 o1, .slice A1 k1.len c1] 24)).alloc (.cells #[.int .i64 (wrap64 (d + 1)), .int .i64 (wrap64 (s + o))] 58) = Wa := ⟨_, rfl⟩
        have hsa : Wa.heap.size = Wr.heap.size + 3 := by rw [← hWa]; simp
        have hka : Below Wr.heap.size Wr Wa := by rw [← hWa]; exact three_boxes Wr _ _ _
        have a0 : Wa.cell? ⟨Wr.heap.size + 1, 0, none⟩ = some (.int .i64 o1) := by rw [← hWa]; simp [go_sem]
        have a1 : Wa.cell? ⟨Wr.heap.size + 1, 1, none⟩ = some (.slice A1 k1.len c1) := by rw [← hWa]; simp [go_sem]
        have a2 : Wa.cell? ⟨Wr.heap.size + 1 + 1, 0, none⟩ = some (.int .i64 (wrap64 (d + 1))) := by rw [← hWa]; simp [go_sem]
        have a2b : Wa.cell? ⟨Wr.heap.size + 1 + 1, 1, none⟩ = some (.int .i64 (wrap64 (s + o))) := by rw [← hWa]; simp [go_sem]
        have a3 : Wa.cell? ⟨W.heap.size, 0, none⟩ = some (.func (.yield l) #[] #[]) := (hka.cell (p := ⟨W.heap.size, 0, none⟩) (by show W.heap.size < Wr.heap.size; omega)).trans r3
        have aJ : J pre Wa := by rw [← hWa]; exact hJ.alloc _ (hJ.alloc _ (hJ.alloc _ hJr))
        have aM : Marks Wa W.heap.size Wa.heap.size ds := (hM.out.keep fun k _ hk h => (hka.block k hk).trans h).more (by omega)
        have aK : Kd P Wa k1 A1 := hm3.keep fun p v hp hc => (hka.cell (World.block_lt_of_cell? Wr p hc)).trans hc
        have aH : Holds (fun k => X k ∨ k = l) W4 Wa := hH.out.trans fun p v hx hc => (hka.cell (Array.getElem?_eq_some_iff.1 (cells_of_cell hc).choose_spec.1).1).trans hc
        rw [hWa]
        obtain ⟨hQ, hX, hY, ih, hP⟩ := HY.out
        have hQ1 : ∀ (p' : List It) (x : It), p'.map It.key ++ [x.key] <+: walkT o1 k1 (wrap64 (d + 1)) (wrap64 (s + o)) → Q (pre ++ p') x := fun p' x hx => hQ _ x (by rw [← hpre.out, walkK_cons, List.map_append, List.append_assoc]; exact (List.prefix_append_right_inj _).2 (hx.trans (List.prefix_append _ _)))
        have hseq := ih o1 k1 A1 c1 (wrap64 (d + 1)) (wrap64 (s + o)) (Wr.heap.size + 1) (Wr.heap.size + 1 + 1) (fun k => X k ∨ k = l) (fun p' x => Q (pre ++ p') x) G Wa (by have := hfs.out; simp only [Fo.size] at this; omega) hG hQ1 aK (fun b hb => by have := hP b hb; omega) (by omega) (by omega) a0 a1 a2 a2b
          (hXn _ (by omega)) (hXn _ (by omega)) (fun k h => ⟨(hX' k h).1, by have := (hX' k h).2; omega⟩)
        clear ih hWa r1 r3 r4 r5 r4a r5a g1 g2 m1 m2 m3 hm3 hJr HY
        have HP := Lib.hid hpre.out; clear hpre
        refine range_own (gf := 73) (lb := #[.pointer (some ⟨Wr.heap.size + 1, 0, none⟩), .pointer (some ⟨Wr.heap.size + 1 + 1, 0, none⟩)]) rfl (enters_of Tryd.func73 (by kernel_rfl) rfl) hseq (fun k h => by have := (hX' k h).2; omega) (Below.refl _ _) (fun _ => rfl)
          (fun q V => J (pre ++ q) V ∧ Holds (fun k => X k ∨ k = l) Wa V ∧ Marks V W.heap.size Wa.heap.size ds)
          (fun cd q V => cd = .ret ∧ Jx (pre ++ q) V ∧ Marks V W.heap.size Wa.heap.size ds)
          (OwnFrom.and (fun q V V' row hs hg hr => (own_more hJ (by omega)) (pre ++ q) V V' row hs hg hr) (OwnFrom.and ((Holds.own _ _).from _) (Marks.own _ _ _)))
          (fun cd => OwnFrom.and (ownFrom_pure _ _) (OwnFrom.and (fun q V V' row hs hg hr => (own_more hJx (by omega)) (pre ++ q) V V' row hs hg hr) (Marks.own _ _ _)))
          ⟨by rw [List.append_nil]; exact aJ, Holds.refl _ _, aM⟩
          (fun x a' V => ∃ Bx By, V.cell? ⟨Bx, 0, none⟩ = some (.int .i64 x.o) ∧ V.cell? ⟨Bx, 1, none⟩ = some (.slice x.A x.n x.c) ∧ V.cell? ⟨By, 0, none⟩ = some (.int .i64 x.d) ∧ V.cell? ⟨By, 1, none⟩ = some (.int .i64 x.s) ∧ a' = { tmps := #[.func (.yield l) #[] #[], .pointer (some ⟨Bt, 0, none⟩), .pointer (some ⟨Bd, 0, none⟩), .pointer (some ⟨W.heap.size, 0, none⟩), .pointer (some ⟨Bb, 0, none⟩), undef, .pointer (some ⟨Wr.heap.size, 0, none⟩), .pointer (some ⟨Bx, 0, none⟩), .pointer (some ⟨By, 0, none⟩), .func (.yield l) #[] #[], .agg #[.int .i64 o, .slice (some ⟨b, off, none⟩) ks.len c], .agg #[.int .i64 d, .int .i64 s], .bool true, .bool false, .pointer (some ⟨Bd, 0, none⟩), .int .i64 d, .int .i64 (wrap64 (d + 1)), .pointer (some ⟨Bd, 1, none⟩), .int .i64 s, .pointer (some ⟨Bt, 0, none⟩), .int .i64 o, .int .i64 (wrap64 (s + o)), .agg #[.int .i64 (wrap64 (d + 1)), .int .i64 (wrap64 (s + o))], .pointer (some ⟨Bt, 1, none⟩), .slice (some ⟨b, off, none⟩) ks.len c, .int .i64 (ks.len : Int), .int .i64 (i : Int), .bool true, .pointer (some ⟨b, off + i * 2, none⟩), .agg #[.int .i64 o1, .slice A1 k1.len c1], .agg #[.int .i64 o1, .slice A1 k1.len c1], .agg #[.int .i64 (wrap64 (d + 1)), .int .i64 (wrap64 (s + o))], .func (.func 73) #[] #[.pointer (some ⟨Wr.heap.size + 1, 0, none⟩), .pointer (some ⟨Wr.heap.size + 1 + 1, 0, none⟩)], tv x.o x.A x.n x.c, .agg #[.int .i64 x.d, .int .i64 x.s], undef, undef, undef, undef, undef, v40], defers := [] })
          (fun x a' _ V V' row hs hg hr => by
            obtain ⟨Bx, By, b0, b1, b2, b3, e⟩ := hs
            exact ⟨Bx, By, cell_kept b0 hg (fun r e => (hr r e).2), cell_kept b1 hg (fun r e => (hr r e).2), cell_kept b2 hg (fun r e => (hr r e).2), cell_kept b3 hg (fun r e => (hr r e).2), e⟩) ?assign ?body ?done ?stop
        case assign =>
          rintro l' q x V K hsv ⟨hj, hh, hm⟩ hK
          unfold It.enc tv
          dsimp only
          gi_wp2
          have two : ∀ {I : List It → World → Prop} {B : Nat} (hI : OwnFrom B I) (o1 o2 : Obj), I q V → I q ((V.alloc o1).alloc o2) := fun hI o1 o2 h => hI q _ _ none (hI q V _ none h (World.grownBy_alloc V _ none) (fun r e => by cases e)) (World.grownBy_alloc _ _ none) (fun r e => by cases e)
          refine hK _ _ (((Kept.refl _ V).alloc _).alloc _) ⟨?_, ?_, ?_⟩ ⟨V.heap.size, V.heap.size + 1, by simp [go_sem], by simp [go_sem], by simp [go_sem], by simp [go_sem], rfl⟩
          · exact two (I := fun q V => J (pre ++ q) V) (B := W.heap.size) (fun q V V' row hs hg hr => hJ (pre ++ q) V V' row hs hg hr) _ _ hj
          · exact two (I := fun _ V => Holds (fun k => X k ∨ k = l) Wa V) (B := 0) ((Holds.own _ _).from _) _ _ hh
          · exact two (I := fun _ V => Marks V W.heap.size Wa.heap.size ds) (B := Wa.heap.size) (Marks.own _ _ _) _ _ hm
        case body =>
          rintro l' q x a' V hsv ⟨hj, hh, hm⟩ ⟨Bx, By, b0, b1, b2, b2b, rfl⟩ hq
          have b3 := hh _ _ (hXn _ (Nat.le_refl _)) a3
          obtain ⟨fn2, tmps2, assign2, body2, hy2, hR2⟩ := hY (pre ++ q) x V hj hq
          unfold It.enc tv at hy2
          have hR3 := fun m => round_in (m' := m) l' hR2
          clear hR2 hY hseq hQ hQ1 a0 a1 a2 a2b a3 aJ aM aK aH
          have HMk : ∀ V', Kept (fun k => X k ∨ k = l) V V' → Marks V' W.heap.size Wa.heap.size ds := fun V' hk' => hm.keep fun k hk1 hk2 h => (hk'.same k (Array.getElem?_eq_some_iff.1 h).1 (hXn k hk1)).trans h
          gi_wp2
          refine (hR3 _).mono ?_
          rintro e V2 (⟨rfl, hg2, hj2, hk2⟩ | ⟨rfl, hx2, hk2⟩)
          · gi_wp2
            exact ⟨hk2, hg2, by rw [← List.append_assoc]; exact hj2, hh.trans hk2.holds, HMk V2 hk2⟩
          · gi_wp2
            exact ⟨hk2, rfl, by rw [← List.append_assoc]; exact hx2, HMk V2 hk2⟩
        case done =>
          rintro D xs V hD hxs ⟨hj, hh, hm⟩ hdf
          clear hY hseq hQ hQ1 a0 a1 a2 a2b a3 aJ aM aK
          have hDv := (Array.getElem?_eq_some_iff.1 hdf).1
          have hi2 := hi.out
          have hfs2 := hfs.out
          simp only [Fo.len] at hi2
          simp only [Fo.size] at hfs2
          gi_wp2
          refine ⟨⟨i + 1, rest, pre ++ xs, _, _, _, _, _, _, _, _, _, rfl, by show _ = _; omega, .inr ⟨b, off, rfl, hb, ?_⟩, by show _ ≤ _; omega, ?_, hj, aH.trans hh, ⟨D, rfl, by omega, hDv, hdf, hm.more hD⟩, by omega⟩, ?_⟩
          · rw [show off + (i + 1) * 2 = off + i * 2 + 2 by omega]; exact m4
          · show _ = _
            rw [← HP.out, walkK_cons, List.map_append, hxs, List.append_assoc]
          · simp [intOf]; omega
        case stop =>
          rintro D cd q V hD hq ⟨rfl, hx, hm⟩ hdf
          clear hY hseq hQ hQ1 a0 a1 a2 a2b a3 aJ aM aK
          gi_wp2
          refine leave_marks rfl (L := W.heap.size) RR.out _ (D + 1) _ ⟨D, rfl, by omega, by omega, hdf, hm.more hD⟩ ⟨⟨_, rfl⟩, .inr ⟨_, ?_, hx⟩⟩
          rw [List.map_append, ← HP.out, walkK_cons]
          exact (List.prefix_append_right_inj _).2 (hq.trans (List.prefix_append _ _))
  · clear t0 t1 t2 t3
    gi_wp2
    refine leave_marks rfl (L := W.heap.size) RR.out [] 0 _ trivial ⟨⟨_, rfl⟩, .inr ⟨_, ?_, hx3⟩⟩
    simp [It.key, walkT]
end Go.Proofs.YtflghlmikpfnpaaDoor.E
