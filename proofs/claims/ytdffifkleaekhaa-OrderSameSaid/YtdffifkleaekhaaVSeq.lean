/-
  together: the iterator over two vectors, for whatever loop body.
-/
import Derived.Test.YtdffifkleaekhaaVCut
import Derived.Test.YtdffifkleaekhaaVRange
import Derived.Shelf.RegionOpen
import Derived.OwnWalkIn
import Derived.TacticsInMore
import Derived.LoopNIn
import Derived.LoopIn
import Derived.RegionIn
namespace Go.Proofs.Ytdffifkleaekhaa.V
open Go.RowKit Go.Shelf
set_option linter.unusedVariables false
set_option linter.unusedSimpArgs false
attribute [local go_sem] Oper.semAt_some

def encT (x : T) : Array Value := #[.agg #[.string x.1, .int .i64 x.2.1], .agg #[.string x.1, .int .i64 x.2.2]]
def lenOf : Value → Nat | .slice _ n _ => n | _ => 0
theorem Kept.row {X : Nat → Prop} {W W' : World} {B : Nat} {A : Option Addr} {l : List D} (h : Kept X W W') (hX : ∀ k, k < B → ¬ X k) (hr : RowD W B A l) : RowD W' B A l := hr.keep fun p v hp hc => h.cell (hX _ hp) hc
theorem grown_of {w w' : World} (h : Below w.heap.size w w') : w.grownBy w' none := ⟨h.os, h.tape, h.output, h.size, fun k hk _ => h.block k hk⟩

/-- A dot's own block. -/
def Two (w : World) (k : Nat) (u v : Value) : Prop := w.heap[k]? = some (.cells #[u, v] 23 (0, 0))
theorem Two.c0 {w : World} {k : Nat} {u v : Value} (h : Two w k u v) : w.cell? ⟨k, 0, none⟩ = some u := by rw [cell_of_row w k 0 _ 23 (0, 0) h]; rfl
theorem Two.c1 {w : World} {k : Nat} {u v : Value} (h : Two w k u v) : w.cell? ⟨k, 1, none⟩ = some v := by rw [cell_of_row w k 1 _ 23 (0, 0) h]; rfl
theorem Two.f0 {w : World} {k : Nat} {u v : Value} (h : Two w k u v) : w.frozen? ⟨k, 0, none⟩ = false := by
  have h' : w.heap[k]? = some (.cells #[u, v] 23 (0, 0)) := h
  simp [World.frozen?, h']
theorem Two.f1 {w : World} {k : Nat} {u v : Value} (h : Two w k u v) : w.frozen? ⟨k, 1, none⟩ = false := by
  have h' : w.heap[k]? = some (.cells #[u, v] 23 (0, 0)) := h
  simp [World.frozen?, h']
theorem Two.lt {w : World} {k : Nat} {u v : Value} (h : Two w k u v) : k < w.heap.size := (Array.getElem?_eq_some_iff.1 h).1
theorem Two.below {w w' : World} {k B : Nat} {u v : Value} (h : Two w k u v) (hb : Below B w w') (hB : k < B) : Two w' k u v := (hb.block k hB).trans h
theorem Two.other {w : World} {k g i : Nat} {u v : Value} (h : Two w k u v) (hne : k ≠ g) (x : Value) : Two (w.setCell ⟨g, i, none⟩ x) k u v := (Below.heap_setCell w _ x k hne).trans h
theorem Two.set0 {w : World} {k : Nat} {u v : Value} (h : Two w k u v) (x : Value) : Two (w.setCell ⟨k, 0, none⟩ x) k x v := by
  obtain ⟨hlt, hk⟩ := Array.getElem?_eq_some_iff.1 h
  show (w.heap.modify k _)[k]? = _
  rw [Array.getElem?_eq_getElem (by rw [Array.size_modify]; exact hlt), Array.getElem_modify_self, hk]
  rfl
theorem Two.set1 {w : World} {k : Nat} {u v : Value} (h : Two w k u v) (x : Value) : Two (w.setCell ⟨k, 1, none⟩ x) k u x := by
  obtain ⟨hlt, hk⟩ := Array.getElem?_eq_some_iff.1 h
  show (w.heap.modify k _)[k]? = _
  rw [Array.getElem?_eq_getElem (by rw [Array.size_modify]; exact hlt), Array.getElem_modify_self, hk]
  rfl
theorem Two.new (w : World) (u v : Value) : Two (w.alloc (.cells #[u, v] 23)) w.heap.size u v := heap_alloc_new w _

set_option maxHeartbeats 1000000 in
theorem together_in (n : Nat) (A A2 : Option Addr) (k c k2 c2 : Nat) (w : World) : CallsIn Fence.wide n Try.prog 99 #[.slice A k c, .slice A2 k2 c2] w fun e w' => e = .returned (.func (.func 106) #[] #[.pointer (some ⟨w.heap.size, 0, none⟩), .pointer (some ⟨w.heap.size + 1, 0, none⟩)]) ∧
      (w.alloc (.cells #[.slice A k c] 24)).alloc (.cells #[.slice A2 k2 c2] 24) = w' := by
  refine callsIn_of_wp Try.func99 rfl trivial ?_ rfl
  simp only [Try.ntmps99, List.size_toArray, List.length_cons, List.length_nil, Nat.reduceAdd, Nat.reduceSub, Array.replicate_succ, Array.replicate_zero, List.push_toArray, List.append_toArray, List.nil_append, List.cons_append]
  gi_wp2
  go_ret
  exact ⟨rfl, rfl⟩

set_option maxRecDepth 100000 in
set_option maxHeartbeats 4000000 in
theorem tog_seq (x y : Vc) (Ba Bb B0 K : Nat) (X : Nat → Prop) (G : T → Prop) (w : World) (hx : x.ok w B0) (hy : y.ok w B0) (hK : x.l.length + y.l.length ≤ K) (hB0 : B0 ≤ w.heap.size) (hX : ∀ k, k < B0 → ¬ X k)
    (hBa : Ba < w.heap.size) (hBb : Bb < w.heap.size) (ca : w.cell? ⟨Ba, 0, none⟩ = some x.v) (cb : w.cell? ⟨Bb, 0, none⟩ = some y.v) :
    SeqQ Try.prog 106 #[.pointer (some ⟨Ba, 0, none⟩), .pointer (some ⟨Bb, 0, none⟩)] encT X (fun pre z => pre ++ [z] <+: mrg K x.l y.l) G (fun xs => xs = mrg K x.l y.l) (fun pre => pre <+: mrg K x.l y.l) w := by
  obtain ⟨A, c, a⟩ := x
  obtain ⟨A2, c2, b⟩ := y
  simp only at *
  intro l J Jx W hW hl1 hl2 hJ hJx hY h0
  refine (callsIn_wide (n := 3)).1 ?_
  have da := (hW.cell (p := ⟨Ba, 0, none⟩) hBa).trans ca
  have db := (hW.cell (p := ⟨Bb, 0, none⟩) hBb).trans cb
  have ox := Lib.hid (hx.below (hW.mono hB0))
  have oy := Lib.hid (hy.below (hW.mono hB0))
  simp only [Vc.v] at da db
  have hsz := hW.size
  have hXl : ∀ k, k < B0 → ¬ (X k ∨ k = l) := by
    rintro k hk (h | rfl)
    · exact hX k hk h
    · omega
  have hBW : B0 ≤ W.heap.size := by omega
  have HH := Lib.hid (And.intro hY (And.intro hJ (And.intro hJx hXl)))
  have H0 := Lib.hid h0
  obtain ⟨n, hn⟩ : ∃ n, a.length = n := ⟨_, rfl⟩
  obtain ⟨m, hm⟩ : ∃ m, b.length = m := ⟨_, rfl⟩
  have HL := Lib.hid (And.intro hn (And.intro hm hK))
  rw [hn] at da
  rw [hm] at db
  clear hn hm hK hY hJ hJx hXl hX h0 hx hy ca cb hW hBa hBb
  refine callsIn_of_wp Try.func106 rfl trivial ?_ rfl
  simp only [Try.ntmps106, List.size_toArray, List.length_cons, List.length_nil, Nat.reduceAdd, Nat.reduceSub, Array.replicate_succ, Array.replicate_zero, List.push_toArray, List.append_toArray, List.nil_append, List.cons_append]
  gi_wp2
  gi_region
  have HJ0 := Lib.hid (HH.out.2.1 [] W W.drew none H0.out (grown_of (Below.refl _ W).drew) (fun r e => by cases e))
  have OX0 := Lib.hid (ox.out.below ((Below.refl B0 W).drew))
  have OY0 := Lib.hid (oy.out.below ((Below.refl B0 W).drew))
  have hs0 : W.drew.heap.size = W.heap.size := rfl
  clear H0 ox oy da db
  obtain ⟨W0, hW0⟩ : ∃ W0, W.drew = W0 := ⟨_, rfl⟩
  rw [hW0] at HJ0 OX0 OY0 hs0 ⊢
  clear hW0
  gi_wp2
  gi_loopw [4, 5] (fun p q wr => ∃ (k : Nat) (A A2 : Option Addr) (c c2 n m : Nat) (ra rb : List D) (pre : List T), p = .slice A n c ∧ q = .slice A2 m c2 ∧ Hid (ra.length = n ∧ rb.length = m ∧ ra.length + rb.length ≤ k ∧ pre ++ mrg k ra rb = mrg K a b) ∧ Hid (J pre wr) ∧ Hid (Vc.ok ⟨A, c, ra⟩ wr B0) ∧ Hid (Vc.ok ⟨A2, c2, rb⟩ wr B0) ∧ W.heap.size ≤ wr.heap.size)
    (fun p q _ => lenOf p + lenOf q)
  case atStart => exact ⟨K, A, A2, c, c2, n, m, a, b, [], rfl, rfl, ⟨HL.out.1, HL.out.2.1, HL.out.2.2, rfl⟩, HJ0, OX0, OY0, by omega⟩
  case round =>
    obtain ⟨k, A, A2, c, c2, n, m, ra, rb, pre, rfl, rfl, hl, hj, hx, hy, hs⟩ := hrel
    clear HJ0 OX0 OY0 hs0
    by_cases hne : 0 < n ∨ 0 < m
    · have hcall := (callsIn_wide (n := 2)).2 (next_any (w := wr) c c2 (hx.out.1.more (by omega)) (hy.out.1.more (by omega)) (by rw [hl.out.1, hl.out.2.1]; exact hne))
      rw [hl.out.1, hl.out.2.1] at hcall
      obtain ⟨S, hS⟩ : ∃ S, nextW ra rb = S := ⟨_, rfl⟩
      rw [hS] at hcall
      rcases Nat.eq_zero_or_pos n with rfl | hn0
      all_goals
        gi_wp2_with fail
        refine ⟨trivial, ?_⟩
        refine hcall.mono ?_
        rintro e w2 ⟨rfl, hb2⟩
        clear hcall
        have hsz2 := hb2.size
        obtain ⟨Wa, hWa⟩ : ∃ Wa, (w2.alloc (.cells #[.string ⟨#[]⟩, .int .i64 0] 23)).alloc (.cells #[.string ⟨#[]⟩, .int .i64 0] 23) = Wa := ⟨_, rfl⟩
        have hba : Below wr.heap.size wr Wa := by rw [← hWa]; exact (hb2.alloc hsz2 _).alloc (by simp; omega) _
        have hsa : Wa.heap.size = w2.heap.size + 2 := by rw [← hWa]; simp
        have hcx := (callsIn_wide (n := 2)).2 (cut_any (w := Wa) (B := B0) S (hx.out.below (hba.mono (by omega))) (by omega))
        rw [hl.out.1] at hcx
        have t7 : Wa.heap[w2.heap.size]? = some (.cells #[.string ⟨#[]⟩, .int .i64 0] 23 (0, 0)) := by
          rw [← hWa]; exact (Below.heap_alloc _ _ _ (by simp)).trans (heap_alloc_new w2 _)
        have t8 : Wa.heap[w2.heap.size + 1]? = some (.cells #[.string ⟨#[]⟩, .int .i64 0] 23 (0, 0)) := by
          rw [← hWa]; have := heap_alloc_new (w2.alloc (.cells #[.string ⟨#[]⟩, .int .i64 0] 23)) (.cells #[.string ⟨#[]⟩, .int .i64 0] 23); rwa [World.size_alloc] at this
        have HBA := Lib.hid hba
        have HWA := Lib.hid hWa
        clear hba hWa hb2
        gi_wp2_with fail
        refine ⟨trivial, ?_⟩
        rw [HWA.out]
        refine hcx.mono ?_
        rintro e w3 ⟨A3, c3, rfl, ok3, hb3⟩
        clear hcx
        have q7 : Two w3 w2.heap.size (.string ⟨#[]⟩) (.int .i64 0) := (hb3.block w2.heap.size (by omega)).trans t7
        have q8 : Two w3 (w2.heap.size + 1) (.string ⟨#[]⟩) (.int .i64 0) := (hb3.block (w2.heap.size + 1) (by omega)).trans t8
        clear t7 t8
        have p0 := q7.c0
        have p1 := q7.c1
        have p2 := q7.f0
        have p3 := q7.f1
        gi_wp2_with fail
        refine ⟨trivial, ?_⟩
        obtain ⟨W4, hW4⟩ : ∃ W4, (w3.setCell ⟨w2.heap.size, 0, none⟩ (.string S)).setCell ⟨w2.heap.size, 1, none⟩ (.int .i64 (cutN ra S)) = W4 := ⟨_, rfl⟩
        have r7 : Two W4 w2.heap.size (.string S) (.int .i64 (cutN ra S)) := by rw [← hW4]; exact (q7.set0 _).set1 _
        have r8 : Two W4 (w2.heap.size + 1) (.string ⟨#[]⟩) (.int .i64 0) := by rw [← hW4]; exact (q8.other (by omega) _).other (by omega) _
        have hs3 := hb3.size
        have hb4 : Below wr.heap.size wr W4 := by rw [← hW4]; exact ((HBA.out.trans (hb3.mono (by omega))).setCell (p := ⟨w2.heap.size, 0, none⟩) hsz2 _).setCell (p := ⟨w2.heap.size, 1, none⟩) hsz2 _
        have hs4 := hb4.size
        have l7 := r8.lt
        have OK3 := Lib.hid ((ok3.below (hb3.mono (by omega))))
        have OK4 : Hid (Vc.ok ⟨A3, c3, cutT ra S⟩ W4 B0) := by
          have h := OK3.out
          rw [← hW4]
          exact (h.below (((Below.refl B0 w3).setCell (p := ⟨w2.heap.size, 0, none⟩) (by show B0 ≤ w2.heap.size; omega) _).setCell (p := ⟨w2.heap.size, 1, none⟩) (by show B0 ≤ w2.heap.size; omega) _))
        have hcy := (callsIn_wide (n := 2)).2 (cut_any (w := W4) (B := B0) S (hy.out.below (hb4.mono (by omega))) (by omega))
        rw [hl.out.2.1] at hcy
        have HB4 := Lib.hid hb4
        rw [hW4]
        clear hW4 p0 p1 p2 p3 q7 q8 hb3 ok3 OK3 hb4 HBA HWA
        refine hcy.mono ?_
        rintro e w5 ⟨A5, c5, rfl, ok5, hb5⟩
        clear hcy
        have s7 := r7.below hb5 (by omega)
        have s8 := r8.below hb5 l7
        have OK5 := Lib.hid (OK4.out.below (hb5.mono (by omega)))
        have OK6 := Lib.hid (ok5.below (hb5.mono (by omega)))
        have HB5 := Lib.hid (HB4.out.trans (hb5.mono (by omega)))
        clear r7 r8 OK4 HB4 hb5 ok5
        have p0 := s8.c0
        have p1 := s8.c1
        have p2 := s8.f0
        have p3 := s8.f1
        have p4 := s7.c0
        have p5 := s7.c1
        have hJ6 : Hid (J pre ((w5.setCell ⟨w2.heap.size + 1, 0, none⟩ (.string S)).setCell ⟨w2.heap.size + 1, 1, none⟩ (.int .i64 (cutN rb S)))) :=
          HH.out.2.1 pre wr _ none hj.out (grown_of ((HB5.out.setCell (p := ⟨w2.heap.size + 1, 0, none⟩) (by show wr.heap.size ≤ w2.heap.size + 1; omega) _).setCell (p := ⟨w2.heap.size + 1, 1, none⟩) (by show wr.heap.size ≤ w2.heap.size + 1; omega) _)) (fun r e => by cases e)
        obtain ⟨k, rfl⟩ : ∃ k', k = k' + 1 := ⟨k - 1, by have := hl.out; omega⟩
        have hne2 : 0 < ra.length ∨ 0 < rb.length := by rw [hl.out.1, hl.out.2.1]; exact hne
        have hm : Hid (pre ++ [(S, cutN ra S, cutN rb S)] ++ mrg k (cutT ra S) (cutT rb S) = mrg K a b) := by
          have := hl.out.2.2.2
          rw [mrg_step k hne2, hS] at this
          rw [List.append_assoc]; exact this
        have hp : Hid (pre ++ [(S, cutN ra S, cutN rb S)] <+: mrg K a b) := ⟨_, hm.out⟩
        have hcl : (cutT ra S).length + (cutT rb S).length < ra.length + rb.length := by rw [← hS]; exact cut_less hne2
        obtain ⟨fn, tmps, assign, body, hy', hR⟩ := HH.out.1 pre (S, cutN ra S, cutN rb S) _ hJ6.out hp.out
        unfold encT at hy'
        dsimp only at hy'
        have HR := fun mm => roundIn_deep (m' := mm) hR
        have h5 := HB5.out.size
        have HB6 := Lib.hid (((Below.refl B0 w5).setCell (p := ⟨w2.heap.size + 1, 0, none⟩) (by show B0 ≤ w2.heap.size + 1; omega) (.string S)).setCell (p := ⟨w2.heap.size + 1, 1, none⟩) (by show B0 ≤ w2.heap.size + 1; omega) (.int .i64 (cutN rb S)))
        have hs6 : ((w5.setCell ⟨w2.heap.size + 1, 0, none⟩ (.string S)).setCell ⟨w2.heap.size + 1, 1, none⟩ (.int .i64 (cutN rb S))).heap.size = w5.heap.size := by simp
        obtain ⟨n', hn'⟩ : ∃ n', (cutT ra S).length = n' := ⟨_, rfl⟩
        obtain ⟨m', hm'⟩ : ∃ m', (cutT rb S).length = m' := ⟨_, rfl⟩
        have hl1 := hl.out.1
        have hl2 := hl.out.2.1
        have hl3 := hl.out.2.2.1
        have HL2 : Hid ((cutT ra S).length = n' ∧ (cutT rb S).length = m' ∧ (cutT ra S).length + (cutT rb S).length ≤ k ∧ pre ++ [(S, cutN ra S, cutN rb S)] ++ mrg k (cutT ra S) (cutT rb S) = mrg K a b) := ⟨hn', hm', by omega, hm.out⟩
        rw [hl1, hl2, hn', hm'] at hcl
        have HH5 := Lib.hid (And.intro hn' (And.intro hm' (And.intro hs6 h5)))
        clear hR hJ6 hm hl1 hl2 hl3 hne2 hs6
        rw [hn', hm']
        clear hn' hm'
        gi_wp2
        refine (HR _).mono ?_
        clear HR
        rintro e W7 (⟨rfl, hg7, hj7, hk7⟩ | ⟨rfl, hx7, hk7⟩)
        · have hs7 := hk7.size
          have hsz7 : W.heap.size ≤ W7.heap.size := by
            have := HH5.out.2.2.1
            have := HH5.out.2.2.2
            omega
          have OK7 : Hid (Vc.ok ⟨A3, c3, cutT ra S⟩ W7 B0) := by
            have h := OK5.out.below HB6.out
            exact ⟨hk7.row HH.out.2.2.2 h.1, h.2⟩
          have OK8 : Hid (Vc.ok ⟨A5, c5, cutT rb S⟩ W7 B0) := by
            have h := OK6.out.below HB6.out
            exact ⟨hk7.row HH.out.2.2.2 h.1, h.2⟩
          have HJ7 := Lib.hid hj7
          clear hj7 hk7 hs7 p0 p1 p2 p3 p4 p5 s7 s8 hy' HB6
          gi_wp2
          go_roundw
          case rel => exact ⟨k, A3, A5, c3, c5, n', m', cutT ra S, cutT rb S, pre ++ [(S, cutN ra S, cutN rb S)], rfl, rfl, HL2, HJ7, OK7, OK8, hsz7⟩
          case measure => simp [lenOf]; omega
        · have HX7 := Lib.hid hx7
          clear hx7 hk7 p0 p1 p2 p3 p4 p5 s7 s8 hy' HB6
          gi_wp2
          refine bodyPost_ret (results_none rfl _ _ _) rfl ?_
          exact ⟨⟨_, rfl⟩, .inr ⟨_, hp.out, HX7.out⟩⟩
    · have e1 : n = 0 := by omega
      have e2 : m = 0 := by omega
      subst e1; subst e2
      have HF : Hid (pre = mrg K a b) := by
        have h := hl.out
        have ea : ra = [] := List.eq_nil_of_length_eq_zero h.1
        have eb : rb = [] := List.eq_nil_of_length_eq_zero h.2.1
        have := h.2.2.2
        rw [ea, eb, mrg_nil, List.append_nil] at this
        exact this
      gi_wp2
      go_end0
      exact ⟨⟨_, rfl⟩, .inl ⟨pre, HF.out, hj.out⟩⟩
end Go.Proofs.Ytdffifkleaekhaa.V
