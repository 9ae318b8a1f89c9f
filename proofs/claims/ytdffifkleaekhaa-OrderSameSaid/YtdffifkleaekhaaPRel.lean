/-
  The memory of a pool, and the pool that it holds.
-/
import Derived.Test.YtdffifkleaekhaaPReady
import Derived.Test.YtdffifkleaekhaaBridge
import Derived.Deep.RegionHeld
namespace Go.Proofs.Ytdffifkleaekhaa.O
open Go.RowKit Go.Proofs.Ytdffifkleaekhaa.V
set_option linter.unusedVariables false
set_option linter.unusedSimpArgs false

/-- A region that draws its order inside a round, at the wide fence, by what holds in every world that is met. -/
theorem region_heldIn {y n : Nat} {P : Program} {Q : Exit → Act → World → Prop} {id : Nat} {a : Act} {w : World} {l : List Oper} (S : World → Prop) (hm : P.follows .mixedOrders = true)
    (hd : (l.all fun o => match o.op with | .defer _ => false | _ => true) = true) (hq : ∀ a w, ¬ Q .outgrown a w)
    (h : wpAnyH P .any l.toArray Q S l.length (Array.replicate l.length false) a w.drew) : (Code.region id l.toArray true).wpIn (Fence.wide.inRound y) n P Q a w :=
  wpIn_region_any hm (anyIn_of (noDefers l hd) hq _ _ _ _ (by simpa using wpAny_of_held _ _ _ _ h))
theorem scope_wide {n : Nat} {P : Program} {c : Code} {Q : Exit → Act → World → Prop} {a : Act} {w : World} (h : c.wpIn Fence.wide n P (Exit.noGoto Q) a w) : (Code.scope c).wpIn Fence.wide n P Q a w := wpIn_wide.2 (wp_scope_straight (wpIn_wide.1 h))
/-- The marks of loops over iterators that have run. -/
def marks (Ds : List Nat) : List Deferred := Ds.map fun D => { target := .collected D, args := #[] }
theorem leaves_marks {F : Fence} {n : Nat} {P : Program} {fn : Func} {tmps : Array Value} {R : Ending → World → Prop} (n₀ : Nat) (T : World → Prop)
    (hT : ∀ W D, T W → n₀ ≤ D → W.heap[D]? = some (.deferred (some [])) → T (W.putObj D (.deferred none))) (hend : ∀ W, T W → LeavesIn F n P fn tmps R [] .returning W) :
    ∀ (Ds : List Nat) (W : World), Ds.Nodup → (∀ D ∈ Ds, n₀ ≤ D ∧ W.heap[D]? = some (.deferred (some []))) → T W → LeavesInM F n P fn tmps R (marks Ds) .returning W
  | [], W, _, _, h => hend W h
  | D :: Ds, W, hnd, hD, h => by
    obtain ⟨h1, h2⟩ := List.nodup_cons.1 hnd
    obtain ⟨g1, g2⟩ := hD D List.mem_cons_self
    refine ⟨by simp, .inl ⟨D, _, rfl, run_takeDeferred g2, ?_⟩⟩
    refine leaves_marks n₀ T hT hend Ds _ h2 (fun E hE => ?_) (hT W D h g1 g2)
    obtain ⟨k1, k2⟩ := hD E (List.mem_cons_of_mem _ hE)
    exact ⟨k1, (World.putObj_heap_other (fun e => h1 (by rw [← e]; exact hE))).trans k2⟩

/-- The memory holds the pool. -/
structure Rel (pv : Pv) (q : Pool) : Prop where
  ds : pv.ds = q.L.map fun o => o.dot
  ws : pv.ws = q.W.map fun o => o.dot
  K : pv.K = q.K
  look : ∀ d, (findO pv.O d).map (fun x => x.o) = find (q.L ++ q.W) d
theorem find_of {l : List Op} (hn : (l.map fun o => o.dot).Nodup) {o : Op} (ho : o ∈ l) : find l o.dot = some o := by
  induction l with
  | nil => cases ho
  | cons x t ih =>
    rw [List.map_cons, List.nodup_cons] at hn
    unfold find
    rw [List.find?_cons]
    rcases List.mem_cons.1 ho with rfl | ho
    · simp
    · have hne : x.dot ≠ o.dot := fun e => hn.1 (by rw [e]; exact List.mem_map.2 ⟨o, ho, rfl⟩)
      simp only [hne, decide_false]
      exact ih hn.2 ho
theorem find_perm {l m : List Op} (hp : l.Perm m) (hn : (l.map fun o => o.dot).Nodup) (d : D) : find l d = find m d := by
  have hm : (m.map fun o => o.dot).Nodup := (hp.map _).nodup_iff.1 hn
  cases h : find l d with
  | some x =>
    obtain ⟨hx, hd⟩ := find_some h
    rw [← hd]; exact (find_of hm (hp.mem_iff.1 hx)).symm
  | none =>
    cases h2 : find m d with
    | none => rfl
    | some y =>
      obtain ⟨hy, hd⟩ := find_some h2
      exact absurd hd (find_none h y (hp.mem_iff.2 hy))
theorem Rel.has {pv : Pv} {q : Pool} (h : Rel pv q) (hi : Inv q) {o : Op} (ho : o ∈ q.L ++ q.W) : ∃ x, findO pv.O o.dot = some x ∧ x.o = o := by
  have h1 := h.look o.dot
  rw [find_of hi.nd ho] at h1
  cases hf : findO pv.O o.dot with
  | none => rw [hf] at h1; cases h1
  | some x => rw [hf] at h1; injection h1 with h1; exact ⟨x, rfl, h1⟩
theorem Rel.rdy {pv : Pv} {q : Pool} (h : Rel pv q) (hi : Inv q) {o : Op} (ho : o ∈ q.W) : pv.rdy o.dot = ready q.K o := by
  obtain ⟨x, hx, hxo⟩ := h.has hi (List.mem_append.2 (.inr ho))
  rw [ready_room' hi ho]
  unfold Pv.rdy
  rw [hx, h.K]
  simp only [hxo]
theorem findIdx_map {α β : Type} (f : α → β) (g : β → Bool) (k : α → Bool) : ∀ l : List α, (∀ x ∈ l, g (f x) = k x) → (l.map f).findIdx? g = l.findIdx? k
  | [], _ => rfl
  | x :: t, h => by
    rw [List.map_cons, List.findIdx?_cons, List.findIdx?_cons, h x (List.mem_cons_self ..), findIdx_map f g k t fun y hy => h y (List.mem_cons_of_mem _ hy)]
theorem Rel.idx {pv : Pv} {q : Pool} (h : Rel pv q) (hi : Inv q) : pv.ws.findIdx? pv.rdy = q.W.findIdx? (Go.Proofs.Ytdffifkleaekhaa.O.ready q.K) := by
  rw [h.ws]; exact findIdx_map _ _ _ _ fun o ho => h.rdy hi ho
theorem Rel.all {pv : Pv} {q : Pool} (h : Rel pv q) (hi : Inv q) : ∀ d ∈ pv.ws, dotB d = true ∧ ∃ x, findO pv.O d = some x := by
  intro d hd
  rw [h.ws] at hd
  obtain ⟨o, ho, rfl⟩ := List.mem_map.1 hd
  obtain ⟨x, hx, _⟩ := h.has hi (List.mem_append.2 (.inr ho))
  exact ⟨(rightO_iff (hi.ro o (List.mem_append.2 (.inr ho)))).dot, x, hx⟩
theorem Rel.fst {pv : Pv} {q : Pool} (h : Rel pv q) (hi : Inv q) {x : Nat × D} (hx : pv.fst x) : ∃ o, q.W.findIdx? (Go.Proofs.Ytdffifkleaekhaa.O.ready q.K) = some x.1 ∧ q.W[x.1]? = some o ∧ o.dot = x.2 ∧ Go.Proofs.Ytdffifkleaekhaa.O.ready q.K o = true ∧ x.1 < q.W.length := by
  obtain ⟨h1, h2⟩ := hx
  rw [h.idx hi] at h1
  rw [h.ws, List.getElem?_map] at h2
  obtain ⟨hl, hr, _⟩ := List.findIdx?_eq_some_iff_getElem.1 h1
  refine ⟨q.W[x.1], h1, List.getElem?_eq_getElem hl, ?_, hr, hl⟩
  rw [List.getElem?_eq_getElem hl] at h2
  injection h2
theorem erase_map {α β : Type} (f : α → β) : ∀ (l : List α) (i : Nat), (l.map f).eraseIdx i = (l.eraseIdx i).map f
  | [], _ => rfl
  | _ :: _, 0 => rfl
  | x :: t, i + 1 => by simp [erase_map f t i]
/-- One that waited is delivered. -/
theorem Rel.next {pv pv' : Pv} {q : Pool} (h : Rel pv q) (hi : Inv q) {i : Nat} {o : Op} (ho : q.W[i]? = some o) (hr : Go.Proofs.Ytdffifkleaekhaa.O.ready q.K o = true) (h1 : pv'.ds = pv.ds ++ [o.dot]) (h2 : pv'.ws = pv.ws.eraseIdx i) (h3 : pv'.K = (withO pv.K o.dot).1) (h4 : pv'.O = pv.O) :
    Rel pv' ⟨q.L ++ [o], (withO q.K o.dot).1, q.W.eraseIdx i⟩ ∧ Inv ⟨q.L ++ [o], (withO q.K o.dot).1, q.W.eraseIdx i⟩ := by
  have hmem := mem_erase ho
  have hperm : (q.L ++ [o] ++ q.W.eraseIdx i).Perm (q.L ++ q.W) := by
    rw [List.append_assoc]
    exact (perm_erase q.W i o ho).append_left q.L
  have hnd : ((q.L ++ [o] ++ q.W.eraseIdx i).map fun o => o.dot).Nodup := (hperm.map _).nodup_iff.2 hi.nd
  refine ⟨⟨by rw [h1, h.ds]; simp, by rw [h2, h.ws, erase_map], by rw [h3, h.K], fun d => ?_⟩, inv_hand hi (hi.ro o (List.mem_append.2 (.inr ((hmem o).2 (.inl rfl))))) hr hnd fun x hx => (hmem x).2 (.inr hx)⟩
  rw [h4, h.look]
  exact (find_perm hperm hnd d).symm
/-- Kept where marks alone are written. -/
theorem Pv.At.grown {p : Pv} {w w' : World} {b : Nat} {row : Option Nat} (h : p.At w b) (hg : w.grownBy w' row) (hr : ∀ r, row = some r → ∃ o : Obj, w.heap[r]? = some o ∧ o.isCells = false) (hm : ∀ r, row = some r → p.M ≠ some r) : p.At w' b := by
  have hcell : ∀ {a : Addr} {v : Value}, w.cell? a = some v → w'.cell? a = some v := fun hc => cell_kept hc hg hr
  have hblk : ∀ {k : Nat} {cs : Array Value} {t : TypeId} {fr : Nat × Nat}, w.heap[k]? = some (.cells cs t fr) → w'.heap[k]? = w.heap[k]? := fun {k cs t fr} hk => hg.block k (Array.getElem?_eq_some_iff.1 hk).1 fun e => by
    obtain ⟨o, ho, hc⟩ := hr k e.symm
    rw [hk] at ho; cases ho; cases hc
  have hrow : ∀ {A : Option Addr} {l : List D}, RowD w w.heap.size A l → RowD w' w'.heap.size A l := fun hr hn => by
    obtain ⟨g, off, e, hb, hc⟩ := hr hn
    exact ⟨g, off, e, Nat.lt_of_lt_of_le hb hg.size, fun j d hj => ⟨hcell (hc j d hj).1, hcell (hc j d hj).2⟩⟩
  refine ⟨(hblk h.box).trans h.box, grD_same h.gd fun k hk => by obtain ⟨cs, hc⟩ := grD_kind h.gd k hk; exact hblk hc, grD_same h.gw fun k hk => by obtain ⟨cs, hc⟩ := grD_kind h.gw k hk; exact hblk hc, h.ne, ⟨hrow h.k.1, h.k.2⟩, h.kf.more hg.size,
    h.mp.same fun k hk => hg.block k (h.own_lt k (.inr (.inl hk))).2 fun e => hm k e.symm hk, fun x hx => ?_⟩
  obtain ⟨h1, h2, h3⟩ := h.ops x hx
  exact ⟨⟨⟨hrow h1.d.1, h1.d.2⟩, ⟨hrow h1.s.1, h1.s.2⟩, h1.fit⟩, h2.more hg.size, h3.more hg.size⟩
theorem boxed_not_own {p : Pv} {w : World} {b B : Nat} {t : TypeId} {v : Value} (h : p.At w b) (hB : Boxed w B t v) (h1 : t ≠ 23) (h2 : t ≠ 88) : ¬ p.own b B := by
  have hb : w.heap[B]? = some (.cells #[v] t (0, 0)) := hB
  rintro (rfl | hk | hk | hk)
  · have h0 : w.heap[B]? = _ := h.box
    rw [hb] at h0; injection h0 with h0; injection h0 with _ h0; exact h2 h0
  · have hm := h.mp
    unfold Pv.map at hm
    rw [hk] at hm
    obtain ⟨es, clock, hmk⟩ := hm.2.kind
    rw [hb] at hmk; cases hmk
  · obtain ⟨cs, hc⟩ := grD_kind h.gd B hk
    rw [hb] at hc; simp at hc; exact h1 hc.2
  · obtain ⟨cs, hc⟩ := grD_kind h.gw B hk
    rw [hb] at hc; simp at hc; exact h1 hc.2
end Go.Proofs.Ytdffifkleaekhaa.O
