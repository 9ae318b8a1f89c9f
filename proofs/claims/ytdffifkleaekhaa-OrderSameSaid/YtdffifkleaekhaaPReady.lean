/-
  The iterator over what waits and can be delivered: its first one.
-/
import Derived.Test.YtdffifkleaekhaaPHeld
import Derived.Shelf.RegionOpen
import Derived.OwnWalkIn
import Derived.TacticsInMore
import Derived.LoopNIn
import Derived.LoopIn
import Derived.RegionIn
namespace Go.Proofs.Ytdffifkleaekhaa.O
open Go.RowKit Go.Shelf Go.Proofs.Ytdffifkleaekhaa.V
attribute [local go_sem] Oper.semAt_some
set_option linter.unusedVariables false
set_option linter.unusedSimpArgs false


def encR (x : Nat × D) : Array Value := #[.int .i64 (x.1 : Int), .agg #[.string x.2.1, .int .i64 x.2.2]]
/-- Whether one that waits can be delivered. -/
def Pv.rdy (p : Pv) (d : D) : Bool := roomB p.K d && (match findO p.O d with | some x => leqB x.o.deps p.K | none => false)
def Pv.fst (p : Pv) (x : Nat × D) : Prop := p.ws.findIdx? p.rdy = some x.1 ∧ p.ws[x.1]? = some x.2
set_option maxHeartbeats 1000000 in
theorem ready_in (n b : Nat) (w : World) : CallsIn Fence.wide n Try.prog 89 #[.pointer (some ⟨b, 0, none⟩)] w fun e w' => e = .returned (.func (.func 101) #[] #[.pointer (some ⟨w.heap.size, 0, none⟩)]) ∧ w.alloc (.cells #[.pointer (some ⟨b, 0, none⟩)] 37) = w' := by
  refine callsIn_of_wp Try.func89 rfl trivial ?_ rfl
  simp only [Try.ntmps89, List.size_toArray, List.length_cons, List.length_nil, Nat.reduceAdd, Nat.reduceSub, Array.replicate_succ, Array.replicate_zero, List.push_toArray, List.append_toArray, List.nil_append, List.cons_append]
  gi_wp2
  go_ret
  exact ⟨rfl, rfl⟩
theorem findIdx_none {α : Type} {f : α → Bool} {l : List α} (h : ∀ m (hm : m < l.length), f (l[m]'hm) = false) : l.findIdx? f = none := by
  rw [List.findIdx?_eq_none_iff]
  intro x hx
  obtain ⟨m, hm, e⟩ := List.getElem_of_mem hx
  rw [← e]; exact h m hm
theorem findIdx_first {α : Type} {f : α → Bool} {l : List α} {j : Nat} (hj : j < l.length) (hf : f (l[j]'hj) = true) (h : ∀ m (hm : m < j), f (l[m]'(Nat.lt_trans hm hj)) = false) : l.findIdx? f = some j := by
  rw [List.findIdx?_eq_some_iff_getElem]
  exact ⟨hj, hf, fun m hm => by rw [h m hm]; simp⟩

set_option maxRecDepth 100000 in
set_option maxHeartbeats 4000000 in
theorem ready_seq (p : Pv) (b pb : Nat) (X : Nat → Prop) (w : World) (h : p.At w b) (hpb : pb < w.heap.size) (hc : w.cell? ⟨pb, 0, none⟩ = some (.pointer (some ⟨b, 0, none⟩))) (hf : ∀ d ∈ p.ws, dotB d = true ∧ ∃ x, findO p.O d = some x) (hl : p.ws.length ≤ 1000000) (hX : ∀ k, X k → k < w.heap.size) (hXp : ¬ X pb) :
    SeqQ Try.prog 101 #[.pointer (some ⟨pb, 0, none⟩)] encR X (fun pre x => pre = [] ∧ p.fst x) (fun _ => False) (fun xs => xs = [] ∧ p.ws.findIdx? p.rdy = none) (fun pre => ∃ x, pre = [x] ∧ p.fst x) w := by
  intro l J Jx W hW hl1 hl2 hJ hJx hY h0
  refine (callsIn_wide (n := 3)).1 ?_
  have hA : p.At W b := h.up hW
  have hcp := (hW.cell (p := ⟨pb, 0, none⟩) hpb).trans hc
  have hpw := Nat.lt_of_lt_of_le hpb hW.size
  have HXL : Hid (∀ k, (W.heap.size ≤ k ∨ k = pb) → ¬ (X k ∨ k = l)) := fun k hk hx => by
    have hws := hW.size
    rcases hk with hk | rfl
    · rcases hx with hx | rfl
      · have := hX k hx; omega
      · omega
    · rcases hx with hx | rfl
      · exact hXp hx
      · omega
  have HP : Hid (∀ V, Below W.heap.size W V → V.cell? ⟨pb, 0, none⟩ = some (.pointer (some ⟨b, 0, none⟩))) := fun V hV => (hV.cell (p := ⟨pb, 0, none⟩) hpw).trans hcp
  have HA : Hid (∀ V, Below W.heap.size W V → p.At V b) := fun V hV => hA.up hV
  have HH := Lib.hid (And.intro hY (And.intro hJ hJx))
  have H0 := Lib.hid h0
  have HF := Lib.hid (And.intro hf hl)
  obtain ⟨n, hn⟩ : ∃ n, p.ws.length = n := ⟨_, rfl⟩
  have HN := Lib.hid hn
  have hbn : n ≤ 1000000 := by rw [← hn]; exact hl
  have c2 := hA.box.at.c2
  rw [hn] at c2
  obtain ⟨Aw, hAw⟩ : ∃ A, p.Aw = A := ⟨_, rfl⟩
  obtain ⟨cw, hcw⟩ : ∃ A, p.cw = A := ⟨_, rfl⟩
  rw [hAw, hcw] at c2
  have HAW := Lib.hid hAw
  clear hX hXp hY hJ hJx h0 hf hl hn hA hpw hW h hpb hc hAw hcw hl1 hl2
  refine callsIn_of_wp Try.func101 rfl trivial ?_ rfl
  simp only [Try.ntmps101, List.size_toArray, List.length_cons, List.length_nil, Nat.reduceAdd, Nat.reduceSub, Array.replicate_succ, Array.replicate_zero, List.push_toArray, List.append_toArray, List.nil_append, List.cons_append]
  gi_wp2
  gi_loopw [10] (fun i wr => ∃ j : Nat, j ≤ n ∧ i = .int .i64 (j : Int) ∧ Hid (∀ m (hm : m < p.ws.length), m < j → p.rdy (p.ws[m]'hm) = false) ∧ Hid (J [] wr) ∧ Hid (Below W.heap.size W wr))
    (fun i _ => n - (intOf i).toNat)
  case atStart => exact ⟨0, by omega, rfl, (fun m hm h => absurd h (by omega)), H0.out, Below.refl _ _⟩
  case round =>
    obtain ⟨j, hj, rfl, hno, hjj, hbw⟩ := hrel
    clear hcp c2 H0
    by_cases hlt : j < n
    · have HLT := Lib.hid hlt
      have hlt' : j < p.ws.length := by rw [HN.out]; exact hlt
      obtain ⟨d, hd⟩ : ∃ d, p.ws[j]'hlt' = d := ⟨_, rfl⟩
      obtain ⟨hdb, x, hx⟩ := HF.out.1 d (by rw [← hd]; exact List.getElem_mem hlt')
      obtain ⟨s, q⟩ := d
      have hAr := HA.out wr hbw.out
      obtain ⟨g, off, hga, hgl, g0, g1⟩ := hAr.gw.row.at j hlt'
      rw [hd] at g0 g1
      rw [HAW.out] at hga
      subst hga
      simp only at g0 g1
      have hsz := hbw.out.size
      obtain ⟨We, hWe⟩ : ∃ We, wr.alloc (.cells #[.string s, .int .i64 q] 23) = We := ⟨_, rfl⟩
      have HWe := Lib.hid hWe
      have hTw : Two We wr.heap.size (.string s) (.int .i64 q) := by rw [← hWe]; exact Two.new wr _ _
      have HBr : Hid (Below wr.heap.size wr We) := by show Below _ _ _; rw [← hWe]; exact (Below.refl _ wr).alloc (Nat.le_refl _) _
      have HBE : Hid (Below W.heap.size W We) := hbw.out.trans (HBr.out.mono hsz)
      have HT : Hid (∀ V, Below We.heap.size We V → V.cell? ⟨wr.heap.size, 0, none⟩ = some (.string s) ∧ V.cell? ⟨wr.heap.size, 1, none⟩ = some (.int .i64 q) ∧ V.cell? ⟨pb, 0, none⟩ = some (.pointer (some ⟨b, 0, none⟩)) ∧ V.cell? ⟨b, 0, none⟩ = some (.map p.M) ∧ ∃ m, p.M = some m ∧ (Instr.lookup 86 (.map (some m)) (.agg #[.string s, .int .i64 q]) false).run Try.prog V = .ok x.v V) := fun V hV => by
        have hV2 := HBE.out.trans (hV.mono HBE.out.size)
        have hav := HA.out V hV2
        refine ⟨(hTw.below hV hTw.lt).c0, (hTw.below hV hTw.lt).c1, HP.out V hV2, hav.box.at.c0, ?_⟩
        have hm := hav.mp
        unfold Pv.map at hm
        cases hM : p.M with
        | none =>
          rw [hM] at hm
          rw [hm] at hx; cases hx
        | some m =>
          rw [hM] at hm
          refine ⟨m, rfl, ?_⟩
          have hq := dotB_iff.1 hdb
          simp only at hq
          have h1 := hm.2.look false (s := s) (k := q) (by have := (nameB_pos hq.1).2; unfold maxLen; omega) (wf64 hq.2)
          rw [hx] at h1
          exact h1
      obtain ⟨m, hm, _⟩ := (HT.out We (Below.refl _ _)).2.2.2.2
      have HT2 : Hid (∀ V, Below We.heap.size We V → V.cell? ⟨wr.heap.size, 0, none⟩ = some (.string s) ∧ V.cell? ⟨wr.heap.size, 1, none⟩ = some (.int .i64 q) ∧ V.cell? ⟨pb, 0, none⟩ = some (.pointer (some ⟨b, 0, none⟩)) ∧ V.cell? ⟨b, 0, none⟩ = some (.map (some m)) ∧ (Instr.lookup 86 (.map (some m)) (.agg #[.string s, .int .i64 q]) false).run Try.prog V = .ok x.v V) := fun V hV => by
        obtain ⟨e1, e2, e3, e4, m', hm', e5⟩ := HT.out V hV
        rw [hm] at e4 hm'
        injection hm' with hm'
        subst hm'
        exact ⟨e1, e2, e3, e4, e5⟩
      have HCR : Hid (∀ V, Below We.heap.size We V → Calls Try.prog 60 #[.pointer (some ⟨b, 0, none⟩), .agg #[.string s, .int .i64 q]] V fun e w' => e = .returned (.bool (roomB p.K (s, q))) ∧ Below V.heap.size V w') := fun V hV => hasRoom_any (HA.out V (HBE.out.trans (hV.mono HBE.out.size))) s q
      have hxo := (hAr.ops x (List.mem_of_find?_eq_some hx)).1
      have HCD : Hid (∀ V, Below We.heap.size We V → Calls Try.prog 61 #[.pointer (some ⟨b, 0, none⟩), x.v] V fun e w' => e = .returned (.bool (leqB x.o.deps p.K)) ∧ Below V.heap.size V w') := fun V hV =>
        deliverable_any (HA.out V (HBE.out.trans (hV.mono HBE.out.size))) x ((hxo.up HBr.out).up hV)
      have hrd : p.rdy (s, q) = (roomB p.K (s, q) && leqB x.o.deps p.K) := by unfold Pv.rdy; rw [hx]
      obtain ⟨R1, hR1⟩ : ∃ R, roomB p.K (s, q) = R := ⟨_, rfl⟩
      obtain ⟨R2, hR2⟩ : ∃ R, leqB x.o.deps p.K = R := ⟨_, rfl⟩
      rw [hR1] at HCR
      rw [hR2] at HCD
      rw [hR1, hR2] at hrd
      obtain ⟨vx, hvx⟩ : ∃ v, x.v = v := ⟨_, rfl⟩
      rw [hvx] at HT2 HCD
      have HRD := Lib.hid (And.intro hrd hd)
      have HJE : Hid (J [] We) := HH.out.2.1 [] wr We none hjj.out (grown_of HBr.out) (fun r e => by cases e)
      have HS0 : Hid (Below We.heap.size We We.drew) := (Below.refl _ We).drew
      clear HT hm hrd hR1 hR2 hvx hxo hx hdb hAr hTw hWe hd
      gi_wp2_with fail
      have hwx := HWe.out
      try rw [hwx]
      clear hwx g0 g1
      refine region_heldW (fun V => V.cell? ⟨wr.heap.size, 0, none⟩ = some (.string s) ∧ V.cell? ⟨wr.heap.size, 1, none⟩ = some (.int .i64 q) ∧ V.cell? ⟨pb, 0, none⟩ = some (.pointer (some ⟨b, 0, none⟩))) (by kernel_rfl) ?_
      have HSS : Hid (∀ V, Below We.heap.size We V → V.cell? ⟨wr.heap.size, 0, none⟩ = some (.string s) ∧ V.cell? ⟨wr.heap.size, 1, none⟩ = some (.int .i64 q) ∧ V.cell? ⟨pb, 0, none⟩ = some (.pointer (some ⟨b, 0, none⟩))) := fun V hV => ⟨(HT2.out V hV).1, (HT2.out V hV).2.1, (HT2.out V hV).2.2.1⟩
      have hS := HSS.out _ HS0.out
      simp only [List.size_toArray, List.length_cons, List.length_nil, Nat.zero_add, Nat.reduceAdd, Array.replicate_succ, Array.replicate_zero, List.push_toArray, List.nil_append, List.cons_append]
      generalize We.drew = Wd at *
      cases R1 with
      | false =>
        have hnr : Hid (∀ m (hm : m < p.ws.length), m < j + 1 → p.rdy (p.ws[m]'hm) = false) := fun m hm h => by
          rcases Nat.lt_succ_iff_lt_or_eq.1 h with h | rfl
          · exact hno.out m hm h
          · rw [HRD.out.2, HRD.out.1]; rfl
        refine anyW_take (i := 0) (v := ?_) rfl (by kernel_rfl) (by kernel_rfl) (by kernel_rfl) (fun _ _ _ h => h) (Or.inl ⟨by kernel_rfl, fun W hW => ?_⟩) hS ?_
        rotate_left
        · obtain ⟨e0, e1, e2⟩ := hW
          first | (go_simp; done) | (go_simp; with_reducible rfl)
        refine anyW_take (i := 1) (v := ?_) rfl (by kernel_rfl) (by kernel_rfl) (by kernel_rfl) (fun _ _ _ h => h) (Or.inl ⟨by kernel_rfl, fun W hW => ?_⟩) hS ?_
        rotate_left
        · obtain ⟨e0, e1, e2⟩ := hW
          first | (go_simp; done) | (go_simp; with_reducible rfl)
        try go_simp
        refine anyW_one (i := 2) (by kernel_rfl) rfl (fun K hK => ?_)
        go_simp
        gi_wp2_with fail
        refine ⟨trivial, ?_⟩
        refine ((callsIn_wide (n := 2)).2 (HCR.out _ HS0.out)).mono ?_
        rintro e wa ⟨rfl, hba⟩
        have HSa := Lib.hid (HS0.out.trans (hba.mono HS0.out.size))
        clear hba
        have hS3 := HSS.out wa HSa.out
        refine hK.out _ _ hS3 (fun hS => ?_)
        clear hK K hS3
        refine anyW_take (i := 3) (v := ?_) rfl (by kernel_rfl) (by kernel_rfl) (by kernel_rfl) (fun _ _ _ h => h) (Yields.yieldsIf (Or.inl ⟨by kernel_rfl, ?_⟩)) hS ?_
        rotate_left
        · first | (intro w; go_simp; done) | (intro w; go_simp; with_reducible rfl)
        refine anyW_take (i := 4) (v := undef) rfl (by kernel_rfl) (by kernel_rfl) (by kernel_rfl) (fun _ _ _ h => h) (Or.inr ⟨by kernel_rfl, rfl⟩) hS ?_
        refine anyW_take (i := 5) (v := undef) rfl (by kernel_rfl) (by kernel_rfl) (by kernel_rfl) (fun _ _ _ h => h) (Or.inr ⟨by kernel_rfl, rfl⟩) hS ?_
        refine anyW_take (i := 6) (v := undef) rfl (by kernel_rfl) (by kernel_rfl) (by kernel_rfl) (fun _ _ _ h => h) (Or.inr ⟨by kernel_rfl, rfl⟩) hS ?_
        refine anyW_take (i := 7) (v := undef) rfl (by kernel_rfl) (by kernel_rfl) (by kernel_rfl) (fun _ _ _ h => h) (Or.inr ⟨by kernel_rfl, rfl⟩) hS ?_
        refine anyW_take (i := 8) (v := undef) rfl (by kernel_rfl) (by kernel_rfl) (by kernel_rfl) (fun _ _ _ h => h) (Or.inr ⟨by kernel_rfl, rfl⟩) hS ?_
        refine anyW_take (i := 9) (v := undef) rfl (by kernel_rfl) (by kernel_rfl) (by kernel_rfl) (fun _ _ _ h => h) (Or.inr ⟨by kernel_rfl, rfl⟩) hS ?_
        refine anyW_take (i := 10) (v := undef) rfl (by kernel_rfl) (by kernel_rfl) (by kernel_rfl) (fun _ _ _ h => h) (Or.inr ⟨by kernel_rfl, rfl⟩) hS ?_
        refine anyW_take (i := 11) (v := undef) rfl (by kernel_rfl) (by kernel_rfl) (by kernel_rfl) (fun _ _ _ h => h) (Or.inr ⟨by kernel_rfl, rfl⟩) hS ?_
        refine anyW_take (i := 12) (v := ?_) rfl (by kernel_rfl) (by kernel_rfl) (by kernel_rfl) (fun _ _ _ h => h) (Yields.yieldsIf (Or.inl ⟨by kernel_rfl, ?_⟩)) hS ?_
        rotate_left
        · first | (intro w; go_simp; done) | (intro w; go_simp; with_reducible rfl)
        refine anyW_take (i := 13) (v := ?_) rfl (by kernel_rfl) (by kernel_rfl) (by kernel_rfl) (fun _ _ _ h => h) (Yields.yieldsIf (Or.inl ⟨by kernel_rfl, ?_⟩)) hS ?_
        rotate_left
        · first | (intro w; go_simp; done) | (intro w; go_simp; with_reducible rfl)
        refine anyW_take (i := 14) (v := undef) rfl (by kernel_rfl) (by kernel_rfl) (by kernel_rfl) (fun _ _ _ h => h) (Or.inr ⟨by kernel_rfl, rfl⟩) hS ?_
        refine anyW_take (i := 15) (v := undef) rfl (by kernel_rfl) (by kernel_rfl) (by kernel_rfl) (fun _ _ _ h => h) (Or.inr ⟨by kernel_rfl, rfl⟩) hS ?_
        refine anyW_take (i := 16) (v := undef) rfl (by kernel_rfl) (by kernel_rfl) (by kernel_rfl) (fun _ _ _ h => h) (Or.inr ⟨by kernel_rfl, rfl⟩) hS ?_
        refine anyW_take (i := 17) (v := undef) rfl (by kernel_rfl) (by kernel_rfl) (by kernel_rfl) (fun _ _ _ h => h) (Or.inr ⟨by kernel_rfl, rfl⟩) hS ?_
        refine anyW_take (i := 18) (v := undef) rfl (by kernel_rfl) (by kernel_rfl) (by kernel_rfl) (fun _ _ _ h => h) (Or.inr ⟨by kernel_rfl, rfl⟩) hS ?_
        go_simp
        refine anyW_take (i := 19) (v := ?_) rfl (by kernel_rfl) (by kernel_rfl) (by kernel_rfl) (fun _ _ _ h => h) (Yields.yieldsIf (Or.inl ⟨by kernel_rfl, ?_⟩)) hS ?_
        rotate_left
        · first | (intro w; go_simp; done) | (intro w; go_simp; with_reducible rfl)
        try go_simp
        refine anyW_done (by kernel_rfl) ?_ _
        gi_wp2
        go_round
        case rel => exact ⟨j + 1, Nat.succ_le_of_lt HLT.out, by go_num, hnr, HH.out.2.1 [] We _ none HJE.out (grown_of HSa.out) (fun r e => by cases e), HBE.out.trans (HSa.out.mono HBE.out.size)⟩
        case measure => have := HLT.out; simp [intOf]; omega
      | true =>
        cases R2 with
        | false =>
          have hnr : Hid (∀ m (hm : m < p.ws.length), m < j + 1 → p.rdy (p.ws[m]'hm) = false) := fun m hm h => by
            rcases Nat.lt_succ_iff_lt_or_eq.1 h with h | rfl
            · exact hno.out m hm h
            · rw [HRD.out.2, HRD.out.1]; rfl
          refine anyW_take (i := 0) (v := ?_) rfl (by kernel_rfl) (by kernel_rfl) (by kernel_rfl) (fun _ _ _ h => h) (Or.inl ⟨by kernel_rfl, fun W hW => ?_⟩) hS ?_
          rotate_left
          · obtain ⟨e0, e1, e2⟩ := hW
            first | (go_simp; done) | (go_simp; with_reducible rfl)
          refine anyW_take (i := 1) (v := ?_) rfl (by kernel_rfl) (by kernel_rfl) (by kernel_rfl) (fun _ _ _ h => h) (Or.inl ⟨by kernel_rfl, fun W hW => ?_⟩) hS ?_
          rotate_left
          · obtain ⟨e0, e1, e2⟩ := hW
            first | (go_simp; done) | (go_simp; with_reducible rfl)
          try go_simp
          refine anyW_one (i := 2) (by kernel_rfl) rfl (fun K hK => ?_)
          go_simp
          gi_wp2_with fail
          refine ⟨trivial, ?_⟩
          refine ((callsIn_wide (n := 2)).2 (HCR.out _ HS0.out)).mono ?_
          rintro e wa ⟨rfl, hba⟩
          have HSa := Lib.hid (HS0.out.trans (hba.mono HS0.out.size))
          clear hba
          have hS3 := HSS.out wa HSa.out
          refine hK.out _ _ hS3 (fun hS => ?_)
          clear hK K hS3
          refine anyW_take (i := 3) (v := ?_) rfl (by kernel_rfl) (by kernel_rfl) (by kernel_rfl) (fun _ _ _ h => h) (Yields.yieldsIf (Or.inl ⟨by kernel_rfl, ?_⟩)) hS ?_
          rotate_left
          · first | (intro w; go_simp; done) | (intro w; go_simp; with_reducible rfl)
          refine anyW_take (i := 4) (v := ?_) rfl (by kernel_rfl) (by kernel_rfl) (by kernel_rfl) (fun _ _ _ h => h) (Or.inl ⟨by kernel_rfl, fun W hW => ?_⟩) hS ?_
          rotate_left
          · obtain ⟨e0, e1, e2⟩ := hW
            first | (go_simp; done) | (go_simp; with_reducible rfl)
          refine anyW_take (i := 5) (v := ?_) rfl (by kernel_rfl) (by kernel_rfl) (by kernel_rfl) (fun _ _ _ h => h) (Or.inl ⟨by kernel_rfl, fun W hW => ?_⟩) hS ?_
          rotate_left
          · obtain ⟨e0, e1, e2⟩ := hW
            first | (go_simp; done) | (go_simp; with_reducible rfl)
          refine anyW_take (i := 6) (v := ?_) rfl (by kernel_rfl) (by kernel_rfl) (by kernel_rfl) (fun _ _ _ h => h) (Yields.yieldsIf (Or.inl ⟨by kernel_rfl, ?_⟩)) hS ?_
          rotate_left
          · first | (intro w; go_simp; done) | (intro w; go_simp; with_reducible rfl)
          refine anyW_take (i := 7) (v := ?_) rfl (by kernel_rfl) (by kernel_rfl) (by kernel_rfl) (fun _ _ _ h => h) (Yields.yieldsIf (Or.inl ⟨by kernel_rfl, ?_⟩)) hS ?_
          rotate_left
          · first | (intro w; go_simp; done) | (intro w; go_simp; with_reducible rfl)
          refine anyW_take (i := 9) (v := ?_) rfl (by kernel_rfl) (by kernel_rfl) (by kernel_rfl) (fun _ _ _ h => h) (Or.inl ⟨by kernel_rfl, fun W hW => ?_⟩) hS ?_
          rotate_left
          · obtain ⟨e0, e1, e2⟩ := hW
            first | (go_simp; done) | (go_simp; with_reducible rfl)
          try go_simp
          refine anyW_one (i := 8) (by kernel_rfl) rfl (fun K hK => ?_)
          have k0 := (HT2.out wa HSa.out).2.2.2.1
          go_simp
          have hS3 := HSS.out wa HSa.out
          clear k0
          refine hK.out _ _ hS3 (fun hS => ?_)
          clear hK K hS3
          try go_simp
          refine anyW_one (i := 10) (by kernel_rfl) rfl (fun K hK => ?_)
          have k0 := (HT2.out wa HSa.out).2.2.2.2
          go_simp
          have hS3 := HSS.out wa HSa.out
          clear k0
          refine hK.out _ _ hS3 (fun hS => ?_)
          clear hK K hS3
          try go_simp
          refine anyW_one (i := 11) (by kernel_rfl) rfl (fun K hK => ?_)
          go_simp
          gi_wp2_with fail
          refine ⟨trivial, ?_⟩
          refine ((callsIn_wide (n := 2)).2 (HCD.out _ HSa.out)).mono ?_
          rintro e wb ⟨rfl, hba⟩
          have HSb := Lib.hid (HSa.out.trans (hba.mono HSa.out.size))
          clear hba
          have hS3 := HSS.out wb HSb.out
          refine hK.out _ _ hS3 (fun hS => ?_)
          clear hK K hS3
          refine anyW_take (i := 12) (v := ?_) rfl (by kernel_rfl) (by kernel_rfl) (by kernel_rfl) (fun _ _ _ h => h) (Yields.yieldsIf (Or.inl ⟨by kernel_rfl, ?_⟩)) hS ?_
          rotate_left
          · first | (intro w; go_simp; done) | (intro w; go_simp; with_reducible rfl)
          refine anyW_take (i := 13) (v := ?_) rfl (by kernel_rfl) (by kernel_rfl) (by kernel_rfl) (fun _ _ _ h => h) (Yields.yieldsIf (Or.inl ⟨by kernel_rfl, ?_⟩)) hS ?_
          rotate_left
          · first | (intro w; go_simp; done) | (intro w; go_simp; with_reducible rfl)
          refine anyW_take (i := 14) (v := undef) rfl (by kernel_rfl) (by kernel_rfl) (by kernel_rfl) (fun _ _ _ h => h) (Or.inr ⟨by kernel_rfl, rfl⟩) hS ?_
          refine anyW_take (i := 15) (v := undef) rfl (by kernel_rfl) (by kernel_rfl) (by kernel_rfl) (fun _ _ _ h => h) (Or.inr ⟨by kernel_rfl, rfl⟩) hS ?_
          refine anyW_take (i := 16) (v := undef) rfl (by kernel_rfl) (by kernel_rfl) (by kernel_rfl) (fun _ _ _ h => h) (Or.inr ⟨by kernel_rfl, rfl⟩) hS ?_
          refine anyW_take (i := 17) (v := undef) rfl (by kernel_rfl) (by kernel_rfl) (by kernel_rfl) (fun _ _ _ h => h) (Or.inr ⟨by kernel_rfl, rfl⟩) hS ?_
          refine anyW_take (i := 18) (v := undef) rfl (by kernel_rfl) (by kernel_rfl) (by kernel_rfl) (fun _ _ _ h => h) (Or.inr ⟨by kernel_rfl, rfl⟩) hS ?_
          go_simp
          refine anyW_take (i := 19) (v := ?_) rfl (by kernel_rfl) (by kernel_rfl) (by kernel_rfl) (fun _ _ _ h => h) (Yields.yieldsIf (Or.inl ⟨by kernel_rfl, ?_⟩)) hS ?_
          rotate_left
          · first | (intro w; go_simp; done) | (intro w; go_simp; with_reducible rfl)
          try go_simp
          refine anyW_done (by kernel_rfl) ?_ _
          gi_wp2
          go_round
          case rel => exact ⟨j + 1, Nat.succ_le_of_lt HLT.out, by go_num, hnr, HH.out.2.1 [] We _ none HJE.out (grown_of HSb.out) (fun r e => by cases e), HBE.out.trans (HSb.out.mono HBE.out.size)⟩
          case measure => have := HLT.out; simp [intOf]; omega
        | true =>
          have HQ : Hid (p.fst (j, (s, q))) := ⟨findIdx_first hlt' (by rw [HRD.out.2, HRD.out.1]; rfl) (fun m hm => hno.out m _ hm), by rw [List.getElem?_eq_getElem hlt', HRD.out.2]⟩
          refine anyW_take (i := 0) (v := ?_) rfl (by kernel_rfl) (by kernel_rfl) (by kernel_rfl) (fun _ _ _ h => h) (Or.inl ⟨by kernel_rfl, fun W hW => ?_⟩) hS ?_
          rotate_left
          · obtain ⟨e0, e1, e2⟩ := hW
            first | (go_simp; done) | (go_simp; with_reducible rfl)
          refine anyW_take (i := 1) (v := ?_) rfl (by kernel_rfl) (by kernel_rfl) (by kernel_rfl) (fun _ _ _ h => h) (Or.inl ⟨by kernel_rfl, fun W hW => ?_⟩) hS ?_
          rotate_left
          · obtain ⟨e0, e1, e2⟩ := hW
            first | (go_simp; done) | (go_simp; with_reducible rfl)
          try go_simp
          refine anyW_one (i := 2) (by kernel_rfl) rfl (fun K hK => ?_)
          go_simp
          gi_wp2_with fail
          refine ⟨trivial, ?_⟩
          refine ((callsIn_wide (n := 2)).2 (HCR.out _ HS0.out)).mono ?_
          rintro e wa ⟨rfl, hba⟩
          have HSa := Lib.hid (HS0.out.trans (hba.mono HS0.out.size))
          clear hba
          have hS3 := HSS.out wa HSa.out
          refine hK.out _ _ hS3 (fun hS => ?_)
          clear hK K hS3
          refine anyW_take (i := 3) (v := ?_) rfl (by kernel_rfl) (by kernel_rfl) (by kernel_rfl) (fun _ _ _ h => h) (Yields.yieldsIf (Or.inl ⟨by kernel_rfl, ?_⟩)) hS ?_
          rotate_left
          · first | (intro w; go_simp; done) | (intro w; go_simp; with_reducible rfl)
          refine anyW_take (i := 4) (v := ?_) rfl (by kernel_rfl) (by kernel_rfl) (by kernel_rfl) (fun _ _ _ h => h) (Or.inl ⟨by kernel_rfl, fun W hW => ?_⟩) hS ?_
          rotate_left
          · obtain ⟨e0, e1, e2⟩ := hW
            first | (go_simp; done) | (go_simp; with_reducible rfl)
          refine anyW_take (i := 5) (v := ?_) rfl (by kernel_rfl) (by kernel_rfl) (by kernel_rfl) (fun _ _ _ h => h) (Or.inl ⟨by kernel_rfl, fun W hW => ?_⟩) hS ?_
          rotate_left
          · obtain ⟨e0, e1, e2⟩ := hW
            first | (go_simp; done) | (go_simp; with_reducible rfl)
          refine anyW_take (i := 6) (v := ?_) rfl (by kernel_rfl) (by kernel_rfl) (by kernel_rfl) (fun _ _ _ h => h) (Yields.yieldsIf (Or.inl ⟨by kernel_rfl, ?_⟩)) hS ?_
          rotate_left
          · first | (intro w; go_simp; done) | (intro w; go_simp; with_reducible rfl)
          refine anyW_take (i := 7) (v := ?_) rfl (by kernel_rfl) (by kernel_rfl) (by kernel_rfl) (fun _ _ _ h => h) (Yields.yieldsIf (Or.inl ⟨by kernel_rfl, ?_⟩)) hS ?_
          rotate_left
          · first | (intro w; go_simp; done) | (intro w; go_simp; with_reducible rfl)
          refine anyW_take (i := 9) (v := ?_) rfl (by kernel_rfl) (by kernel_rfl) (by kernel_rfl) (fun _ _ _ h => h) (Or.inl ⟨by kernel_rfl, fun W hW => ?_⟩) hS ?_
          rotate_left
          · obtain ⟨e0, e1, e2⟩ := hW
            first | (go_simp; done) | (go_simp; with_reducible rfl)
          try go_simp
          refine anyW_one (i := 8) (by kernel_rfl) rfl (fun K hK => ?_)
          have k0 := (HT2.out wa HSa.out).2.2.2.1
          go_simp
          have hS3 := HSS.out wa HSa.out
          clear k0
          refine hK.out _ _ hS3 (fun hS => ?_)
          clear hK K hS3
          try go_simp
          refine anyW_one (i := 10) (by kernel_rfl) rfl (fun K hK => ?_)
          have k0 := (HT2.out wa HSa.out).2.2.2.2
          go_simp
          have hS3 := HSS.out wa HSa.out
          clear k0
          refine hK.out _ _ hS3 (fun hS => ?_)
          clear hK K hS3
          try go_simp
          refine anyW_one (i := 11) (by kernel_rfl) rfl (fun K hK => ?_)
          go_simp
          gi_wp2_with fail
          refine ⟨trivial, ?_⟩
          refine ((callsIn_wide (n := 2)).2 (HCD.out _ HSa.out)).mono ?_
          rintro e wb ⟨rfl, hba⟩
          have HSb := Lib.hid (HSa.out.trans (hba.mono HSa.out.size))
          clear hba
          have hS3 := HSS.out wb HSb.out
          refine hK.out _ _ hS3 (fun hS => ?_)
          clear hK K hS3
          refine anyW_take (i := 12) (v := ?_) rfl (by kernel_rfl) (by kernel_rfl) (by kernel_rfl) (fun _ _ _ h => h) (Yields.yieldsIf (Or.inl ⟨by kernel_rfl, ?_⟩)) hS ?_
          rotate_left
          · first | (intro w; go_simp; done) | (intro w; go_simp; with_reducible rfl)
          refine anyW_take (i := 13) (v := ?_) rfl (by kernel_rfl) (by kernel_rfl) (by kernel_rfl) (fun _ _ _ h => h) (Yields.yieldsIf (Or.inl ⟨by kernel_rfl, ?_⟩)) hS ?_
          rotate_left
          · first | (intro w; go_simp; done) | (intro w; go_simp; with_reducible rfl)
          refine anyW_take (i := 14) (v := ?_) rfl (by kernel_rfl) (by kernel_rfl) (by kernel_rfl) (fun _ _ _ h => h) (Yields.yieldsIf (Or.inl ⟨by kernel_rfl, ?_⟩)) hS ?_
          rotate_left
          · first | (intro w; go_simp; done) | (intro w; go_simp; with_reducible rfl)
          refine anyW_take (i := 15) (v := ?_) rfl (by kernel_rfl) (by kernel_rfl) (by kernel_rfl) (fun _ _ _ h => h) (Yields.yieldsIf (Or.inl ⟨by kernel_rfl, ?_⟩)) hS ?_
          rotate_left
          · first | (intro w; go_simp; done) | (intro w; go_simp; with_reducible rfl)
          refine anyW_take (i := 16) (v := ?_) rfl (by kernel_rfl) (by kernel_rfl) (by kernel_rfl) (fun _ _ _ h => h) (Or.inl ⟨by kernel_rfl, fun W hW => ?_⟩) hS ?_
          rotate_left
          · obtain ⟨e0, e1, e2⟩ := hW
            first | (go_simp; done) | (go_simp; with_reducible rfl)
          try go_simp
          refine anyW_one (i := 17) (by kernel_rfl) rfl (fun K hK => ?_)
          obtain ⟨fn, tmps, assign, body, hy', hR⟩ := HH.out.1 [] (j, (s, q)) wb (HH.out.2.1 [] We wb none HJE.out (grown_of HSb.out) (fun r e => by cases e)) ⟨rfl, HQ.out⟩
          unfold encR at hy'
          dsimp only at hy'
          have HR := fun mm => roundIn_deep (m' := mm) hR
          clear hR
          go_simp
          gi_wp2
          refine (HR _).mono ?_
          clear HR
          rintro e W7 (⟨rfl, hg7, _⟩ | ⟨rfl, hx7, hk7⟩)
          · exact hg7.elim
          have HX7 := Lib.hid hx7
          have hs4 := HSS.out wb HSb.out
          have hS3 : W7.cell? ⟨wr.heap.size, 0, none⟩ = some (.string s) ∧ W7.cell? ⟨wr.heap.size, 1, none⟩ = some (.int .i64 q) ∧ W7.cell? ⟨pb, 0, none⟩ = some (.pointer (some ⟨b, 0, none⟩)) := ⟨hk7.cell (HXL.out _ (.inl hbw.out.size)) hs4.1, hk7.cell (HXL.out _ (.inl hbw.out.size)) hs4.2.1, hk7.cell (HXL.out _ (.inr rfl)) hs4.2.2⟩
          refine hK.out _ _ hS3 (fun hS => ?_)
          clear hK K hS3
          refine anyW_take (i := 18) (v := ?_) rfl (by kernel_rfl) (by kernel_rfl) (by kernel_rfl) (fun _ _ _ h => h) (Yields.yieldsIf (Or.inl ⟨by kernel_rfl, ?_⟩)) hS ?_
          rotate_left
          · first | (intro w; go_simp; done) | (intro w; go_simp; with_reducible rfl)
          refine anyW_take (i := 19) (v := ?_) rfl (by kernel_rfl) (by kernel_rfl) (by kernel_rfl) (fun _ _ _ h => h) (Yields.yieldsIf (Or.inl ⟨by kernel_rfl, ?_⟩)) hS ?_
          rotate_left
          · first | (intro w; go_simp; done) | (intro w; go_simp; with_reducible rfl)
          try go_simp
          refine anyW_done (by kernel_rfl) ?_ _
          gi_wp2
          refine bodyPost_ret (results_none rfl _ _ _) rfl ?_
          exact ⟨⟨_, rfl⟩, .inr ⟨_, ⟨_, rfl, HQ.out⟩, HX7.out⟩⟩
    · have hin : j = n := by omega
      subst hin
      have HF3 : Hid (p.ws.findIdx? p.rdy = none) := findIdx_none fun m hm => hno.out m hm (by rw [HN.out] at hm; exact hm)
      gi_wp2
      go_end0
      exact ⟨⟨_, rfl⟩, .inl ⟨[], ⟨rfl, HF3.out⟩, hjj.out⟩⟩

end Go.Proofs.Ytdffifkleaekhaa.O
