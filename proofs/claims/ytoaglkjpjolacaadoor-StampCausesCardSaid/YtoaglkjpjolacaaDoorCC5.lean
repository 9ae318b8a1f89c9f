/-
  StampCauses: what an operation does to the state, and to what is known of it.
-/
import Derived.Test.YtoaglkjpjolacaaDoorCC3
import Derived.Test.YtoaglkjpjolacaaDoorCSCJoin
import Derived.Test.YtoaglkjpjolacaaDoorCC2
import Derived.Test.YtoaglkjpjolacaaDoorCI5
import Derived.Test.YtoaglkjpjolacaaDoorCG1
import Derived.Test.YtoaglkjpjolacaaDoorCS3
namespace Go.Proofs.YtoaglkjpjolacaaDoor.S
open Go.RowKit
set_option linter.unusedVariables false
theorem get_perm {α : Type} : ∀ {l : List α} {i : Nat} {x : α}, l[i]? = some x → l.Perm (x :: l.eraseIdx i)
  | [], i, x, h => by simp at h
  | y :: t, 0, x, h => by simp at h; subst h; exact List.Perm.refl _
  | y :: t, i + 1, x, h => ((get_perm (l := t) (i := i) (x := x) (by simpa using h)).cons y).trans (List.Perm.swap _ _ _)
theorem set_perm {α : Type} : ∀ {l : List α} {i : Nat} (x : α), i < l.length → (l.set i x).Perm (x :: l.eraseIdx i)
  | [], i, x, h => by simp at h
  | y :: t, 0, x, h => List.Perm.refl _
  | y :: t, i + 1, x, h => ((set_perm (l := t) (i := i) x (by simpa using h)).cons y).trans (List.Perm.swap _ _ _)
theorem other_perm {α : Type} {l : List α} {i j : Nat} {p : α} (hp : l[j]? = some p) (hij : i ≠ j) : ∃ R, (l.eraseIdx i).Perm (p :: R) := by
  have hm : p ∈ l.eraseIdx i := List.mem_eraseIdx_iff_getElem?.2 ⟨j, fun e => hij e.symm, hp⟩
  obtain ⟨s, t, e⟩ := List.append_of_mem hm
  exact ⟨s ++ t, by rw [e]; exact List.perm_middle⟩
theorem last_form {α : Type} {l : List α} {x : α} (hl : 0 < l.length) (hx : l[l.length - 1]? = some x) : ∃ m : List α, l = m ++ [x] ∧ m.length = l.length - 1 := by
  refine ⟨l.take (l.length - 1), ?_, by simp⟩
  obtain ⟨hi, he⟩ := List.getElem?_eq_some_iff.1 hx
  have h1 := List.take_append_drop (l.length - 1) l
  rw [List.drop_eq_getElem_cons hi, he, List.drop_of_length_le (by omega)] at h1
  exact h1.symm
theorem move_perm {α : Type} {l : List α} {b : Nat} {x : α} (hb : b < l.length) (hx : l[l.length - 1]? = some x) : ((l.set b x).take (l.length - 1)).Perm (l.eraseIdx b) := by
  obtain ⟨m, hm, hml⟩ := last_form (by omega) hx
  subst hm
  simp only [List.length_append, List.length_singleton] at hb hml ⊢
  rw [show m.length + 1 - 1 = m.length by omega]
  by_cases e : b < m.length
  · rw [List.set_append_left _ _ e, List.eraseIdx_append_of_lt_length e, List.take_append_of_le_length (by simp), List.take_of_length_le (by simp)]
    exact (set_perm x e).trans (List.perm_append_singleton x _).symm
  · obtain rfl : b = m.length := by omega
    rw [List.set_append_right _ _ (Nat.le_refl _), List.eraseIdx_append_of_length_le (Nat.le_refl _)]
    simp
/-- What is known of a state behind j operations. -/
def Good (W : World) (B g j : Nat) : Prop := ∃ (gl gs : Nat) (CS : List Sc) (SS : List Rw) (Q : List St3) (evs : List Evt) (T : I.Tr) (F : Nat), Stt W B g gl gs CS SS Q evs.length ∧ Inv Q evs T F ∧ 1 ≤ Q.length ∧ Q.length ≤ 8 ∧ evs.length ≤ j ∧ F ≤ j ∧ ∀ q ∈ Q, q.2.2.length ≤ j
theorem Good.next {W W' : World} {B g j : Nat} (h : Good W B g j) (hb : Below W.heap.size W W') : Good W' B g j := by
  obtain ⟨gl, gs, CS, SS, Q, evs, T, F, h1, h2⟩ := h
  exact ⟨gl, gs, CS, SS, Q, evs, T, F, h1.next hb, h2⟩
theorem Good.more {W : World} {B g j k : Nat} (h : Good W B g j) (hk : j ≤ k) : Good W B g k := by
  obtain ⟨gl, gs, CS, SS, Q, evs, T, F, h1, h2, h3, h4, h5, h6, h7⟩ := h
  exact ⟨gl, gs, CS, SS, Q, evs, T, F, h1, h2, h3, h4, by omega, by omega, fun q hq => Nat.le_trans (h7 q hq) hk⟩
def Goes (B g j : Nat) (W : World) (e : Ending) (W' : World) : Prop := e = .returned (.bool true) ∧ Good W' B g j ∧ Below B W W'
section
variable {W : World} {B g gl gs j a b : Nat} {CS : List Sc} {SS : List Rw} {Q : List St3} {evs : List Evt} {T : I.Tr} {F : Nat}
theorem both_len (a b : List Bool) (m : Nat) (ha : a.length ≤ m) (hb : b.length ≤ m) : (bothL a b).length ≤ m := by simp [bothL]; omega
theorem gevent (h : Stt W B g gl gs CS SS Q evs.length) (hI : Inv Q evs T F) (h1 : 1 ≤ Q.length) (h8 : Q.length ≤ 8) (he : evs.length ≤ j) (hF : F ≤ j) (hl : ∀ q ∈ Q, q.2.2.length ≤ j) (hj : j < 100) (hB : B ≤ W.heap.size) (ha : a < Q.length) :
    Calls Tryd.prog 38 #[.pointer (some ⟨g, 0, none⟩), .int .i64 a] W (Goes B g (j + 1) W) := by
  have hq : Q[a]? = some Q[a] := List.getElem?_eq_getElem ha
  have hm : Q[a] ∈ Q := List.getElem_mem ha
  obtain ⟨q, hqe⟩ : ∃ q, Q[a] = q := ⟨_, rfl⟩
  rw [hqe] at hq hm
  have hp := get_perm hq
  have hI' := hI.perm hp
  have hf := hI.fits (by omega) (by omega) hm
  have hev : eventR (I.fit q.1) (E.fit q.2.1) = ((q.1, (afterT q.1 q.2.1).norm), 0) := by
    rw [hf.1, E.fit_of hf.2]; exact hI'.event_ok (by omega) (by omega)
  obtain ⟨x, hx⟩ := hI'.event (l' := bothL q.2.2 (ownL evs.length)) (fun n => by rw [bothL_sees, ownL_sees])
  refine (cevent_any h hq (by omega) h8 hev (Nat.le_trans (hl q hm) (by omega)) hB).mono fun e W' ⟨k1, ⟨gl', gs', CS', SS', k2⟩, k3⟩ => ⟨k1, ⟨gl', gs', CS', SS', _, _, T, F, by simpa using k2, hx.perm (set_perm _ ha).symm, by simpa using h1, by simpa using h8, by simp; omega, by omega, fun r hr => ?_⟩, k3⟩
  rcases List.mem_cons.1 ((set_perm _ ha).mem_iff.1 hr) with rfl | hr
  · exact both_len _ _ _ (Nat.le_trans (hl q hm) (by omega)) (by rw [ownL_len]; omega)
  · exact Nat.le_trans (hl r (hp.mem_iff.2 (List.mem_cons_of_mem _ hr))) (by omega)
theorem gfork (h : Stt W B g gl gs CS SS Q evs.length) (hI : Inv Q evs T F) (h1 : 1 ≤ Q.length) (h8 : Q.length < 8) (he : evs.length ≤ j) (hF : F ≤ j) (hl : ∀ q ∈ Q, q.2.2.length ≤ j) (hj : j < 100) (hB : B ≤ W.heap.size) (ha : a < Q.length) :
    Calls Tryd.prog 39 #[.pointer (some ⟨g, 0, none⟩), .int .i64 a] W (Goes B g (j + 1) W) := by
  have hq : Q[a]? = some Q[a] := List.getElem?_eq_getElem ha
  have hm : Q[a] ∈ Q := List.getElem_mem ha
  obtain ⟨q, hqe⟩ : ∃ q, Q[a] = q := ⟨_, rfl⟩
  rw [hqe] at hq hm
  have hp := get_perm hq
  have hI' := hI.perm hp
  have hf := hI.fits (by omega) (by omega) hm
  obtain ⟨n1, n2, n3⟩ := hI.nfs q hm
  by_cases hs : (I.fit (I.splitT q.1.norm).1).isSome = true ∧ (I.fit (I.splitT q.1.norm).2).isSome = true
  · have hsp : I.splitR (some q.1) = (I.splitT q.1.norm, 0) := if_pos hs
    have hfk : forkR (I.fit q.1) (E.fit q.2.1) = (((I.splitT q.1).1, q.2.1), ((I.splitT q.1).2, q.2.1), 0) := by
      rw [hf.1, E.fit_of hf.2]; simp [forkR, hsp, n1, E.norm_nf n2]
    have hd : (I.splitT q.1).1.depth ≤ 32 := by
      have := hs.1
      rw [n1, I.fit_some] at this
      simp at this; exact this.1
    have hx := hI'.fork hd
    refine (cfork_yes h hq (by omega) hfk hB).mono fun e W' ⟨k1, ⟨gl', gs', CS', SS', k2⟩, k3⟩ => ⟨k1, ⟨gl', gs', CS', SS', _, evs, _, F + 1, k2, hx.perm ?_, by simp, by simp; omega, by omega, by omega, fun r hr => ?_⟩, k3⟩
    · refine (List.Perm.swap _ _ _).trans (((set_perm _ ha).symm.cons _).trans (List.perm_append_singleton _ _).symm)
    · rcases List.mem_append.1 hr with hr | hr
      · rcases List.mem_cons.1 ((set_perm _ ha).mem_iff.1 hr) with rfl | hr
        · exact Nat.le_trans (hl q hm) (by omega)
        · exact Nat.le_trans (hl r (hp.mem_iff.2 (List.mem_cons_of_mem _ hr))) (by omega)
      · simp only [List.mem_singleton] at hr; subst hr
        exact Nat.le_trans (hl q hm) (by omega)
  · have hsp : I.splitR (some q.1) = ((.leaf false, .leaf false), 41) := if_neg hs
    have hfk : forkR (I.fit q.1) (E.fit q.2.1) = (zeroS, zeroS, 41) := by
      rw [hf.1, E.fit_of hf.2]; simp [forkR, hsp]
    exact (cfork_no h hq (by omega) hfk hB).mono fun e W' ⟨k1, ⟨gl', gs', CS', SS', k2⟩, k3⟩ => ⟨k1, ⟨gl', gs', CS', SS', Q, evs, T, F, k2, hI, h1, by omega, by omega, by omega, fun r hr => Nat.le_trans (hl r hr) (by omega)⟩, k3⟩
theorem gjoin (pk : Bool) (h : Stt W B g gl gs CS SS Q evs.length) (hI : Inv Q evs T F) (h1 : 1 ≤ Q.length) (h8 : Q.length ≤ 8) (he : evs.length ≤ j) (hF : F ≤ j) (hl : ∀ q ∈ Q, q.2.2.length ≤ j) (hj : j < 100) (hB : B ≤ W.heap.size) (ha : a < Q.length) (hb : b < Q.length) :
    Calls Tryd.prog 40 #[.pointer (some ⟨g, 0, none⟩), .int .i64 a, .int .i64 b, .bool pk] W (Goes B g (j + 1) W) := by
  have hup : ∀ r ∈ Q, r.2.2.length ≤ j + 1 := fun r hr => Nat.le_trans (hl r hr) (by omega)
  by_cases hab : a = b
  · subst hab
    exact (cjoin_same h).mono fun e W' ⟨k1, ⟨gl', gs', CS', SS', k2⟩, k3⟩ => ⟨k1, ⟨gl', gs', CS', SS', Q, evs, T, F, k2, hI, h1, by omega, by omega, by omega, hup⟩, k3⟩
  have hq : Q[a]? = some Q[a] := List.getElem?_eq_getElem ha
  have hm : Q[a] ∈ Q := List.getElem_mem ha
  obtain ⟨q, hqe⟩ : ∃ q, Q[a] = q := ⟨_, rfl⟩
  rw [hqe] at hq hm
  have hq' : Q[b]? = some Q[b] := List.getElem?_eq_getElem hb
  have hm' : Q[b] ∈ Q := List.getElem_mem hb
  obtain ⟨p, hpe⟩ : ∃ q, Q[b] = q := ⟨_, rfl⟩
  rw [hpe] at hq' hm'
  obtain ⟨R, hR⟩ := other_perm hq' hab
  have hp : Q.Perm (q :: p :: R) := (get_perm hq).trans (hR.cons _)
  have hI' := hI.perm hp
  have hf := hI.fits (by omega) (by omega) hm
  have hf' := hI.fits (by omega) (by omega) hm'
  obtain ⟨n1, n2, n3⟩ := hI.nfs p hm'
  have hset : ∀ x : St3, (Q.set a x).Perm (x :: p :: R) := fun x => (set_perm x ha).trans (hR.cons _)
  cases pk with
  | true =>
    have hpk : peekR (I.fit p.1) (E.fit p.2.1) = ((.leaf false, p.2.1.norm), 0) := by rw [hf'.1, E.fit_of hf'.2]; rfl
    have hev : joinS (I.fit q.1) (E.fit q.2.1) (I.fit (.leaf false)) (E.fit p.2.1.norm) = ((q.1, E.Tr.join q.2.1 p.2.1 0 0), 0) := by
      rw [hf.1, E.fit_of hf.2, E.norm_nf n2, E.fit_of hf'.2, show I.fit (.leaf false) = some (.leaf false) from rfl]
      exact hI'.peek_ok (by omega) (by omega)
    have hx := hI'.peek (l' := bothL q.2.2 p.2.2) (fun n => bothL_sees _ _ n)
    refine (cjoin_peek hpk h hq hq' hab h8 hev (Nat.le_trans (hl q hm) (by omega)) (Nat.le_trans (hl p hm') (by omega)) hB).mono fun e W' ⟨k1, ⟨gl', gs', CS', SS', k2⟩, k3⟩ => ⟨k1, ⟨gl', gs', CS', SS', _, evs, T, F, k2, hx.perm (hset _).symm, by simpa using h1, by simpa using h8, by omega, by omega, fun r hr => ?_⟩, k3⟩
    rcases List.mem_cons.1 ((hset _).mem_iff.1 hr) with rfl | hr
    · exact both_len _ _ _ (hup q hm) (hup p hm')
    · exact hup r (hp.mem_iff.2 (List.mem_cons_of_mem _ hr))
  | false =>
    have hev : joinS (I.fit q.1) (E.fit q.2.1) (I.fit p.1) (E.fit p.2.1) = (((I.sumT q.1 p.1).norm, E.Tr.join q.2.1 p.2.1 0 0), 0) := by
      rw [hf.1, E.fit_of hf.2, hf'.1, E.fit_of hf'.2]
      exact hI'.join_ok (by omega) (by omega)
    have hx := hI'.join (l' := bothL q.2.2 p.2.2) (fun n => bothL_sees _ _ n)
    obtain ⟨x, hxe⟩ : ∃ x : St3, ((I.sumT q.1 p.1).norm, E.Tr.join q.2.1 p.2.1 0 0, bothL q.2.2 p.2.2) = x := ⟨_, rfl⟩
    rw [hxe] at hx
    have hlen : (Q.set a x).length = Q.length := List.length_set
    have hz : (Q.set a x)[Q.length - 1]? = some ((Q.set a x)[Q.length - 1]'(by rw [hlen]; omega)) := List.getElem?_eq_getElem _
    obtain ⟨z, hze⟩ : ∃ z, (Q.set a x)[Q.length - 1]'(by rw [hlen]; omega) = z := ⟨_, rfl⟩
    rw [hze] at hz
    have hpb : (Q.set a x)[b]? = some p := by rw [List.getElem?_set, if_neg hab]; exact hq'
    have hmv : (((Q.set a x).set b z).take (Q.length - 1)).Perm ((Q.set a x).eraseIdx b) := by
      have := move_perm (l := Q.set a x) (b := b) (x := z) (by rw [hlen]; exact hb) (by rw [hlen]; exact hz)
      rw [hlen] at this; exact this
    have hrest : ((Q.set a x).eraseIdx b).Perm (x :: R) := by
      have e1 := (get_perm hpb).symm.trans (hset x)
      exact List.Perm.cons_inv (e1.trans (List.Perm.swap _ _ _))
    have hall := hmv.trans hrest
    have hmove := cjoin_move (x := z) (i1 := (I.sumT q.1 p.1).norm) (e1 := E.Tr.join q.2.1 p.2.1 0 0) (by rw [hxe]; exact hz) h hq hq' hab h8 hev (Nat.le_trans (hl q hm) (by omega)) (Nat.le_trans (hl p hm') (by omega)) hB
    rw [hxe] at hmove
    refine hmove.mono fun e W' ⟨k1, ⟨gl', gs', CS', SS', k2⟩, k3⟩ => ⟨k1, ⟨gl', gs', CS', SS', _, evs, T, F, k2, hx.perm hall.symm, ?_, ?_, by omega, by omega, fun r hr => ?_⟩, k3⟩
    · rw [hall.length_eq]; simp
    · have := hall.length_eq; have := hp.length_eq; simp only [List.length_cons] at *; omega
    · rcases List.mem_cons.1 (hall.mem_iff.1 hr) with rfl | hr
      · rw [← hxe]; exact both_len _ _ _ (hup q hm) (hup p hm')
      · exact hup r (hp.mem_iff.2 (List.mem_cons_of_mem _ (List.mem_cons_of_mem _ hr)))
end
end Go.Proofs.YtoaglkjpjolacaaDoor.S
namespace Go.Proofs.YtoaglkjpjolacaaDoor.S
open Go.RowKit
set_option linter.unusedVariables false
set_option linter.unusedSimpArgs false
def elOf (s : Sc) : I.El := ⟨s.o, s.A, s.n, s.c⟩
theorem cap_le {w : World} {base c : Nat} {A : Option Addr} {l : List I.El} (h : I.GrE w base A c l) : l.length ≤ c := by
  rcases h.cases with ⟨_, rfl, rfl⟩ | ⟨g, cur, _, _, _, h1, _⟩
  · simp
  · exact h1
set_option maxRecDepth 100000 in
set_option maxHeartbeats 12800000 in
theorem stands_any {W : World} {B g gl gs n : Nat} {CS : List Sc} {SS : List Rw} {Q : List St3} (hT : Stt W B g gl gs CS SS Q n) (hq8 : Q.length ≤ 8) (hll : ∀ q ∈ Q, q.2.2.length ≤ 1000) (hfit : ∀ q ∈ Q, I.fit q.1 = some q.1)
    (hle : ∀ q ∈ Q, ∀ p ∈ Q, ((I.fit q.1).isSome && (I.fit p.1).isSome && E.leqO (E.fit q.2.1) (E.fit p.2.1)) = withinL q.2.2 p.2.2) (hwh : ∀ f, I.cnt (Q.map (·.1)) f = 1) :
    Calls Tryd.prog 18 #[.pointer (some ⟨g, 0, none⟩)] W fun e W' => e = .returned (.bool true) ∧ Below W.heap.size W W' := by
  have HT := Lib.hid hT
  have HLL := Lib.hid hll
  have HFIT := Lib.hid hfit
  have HLE := Lib.hid hle
  have HWH := Lib.hid hwh
  obtain ⟨lq, hlq⟩ : ∃ l, Q.length = l := ⟨_, rfl⟩
  rw [hlq] at hq8
  have HLQ := Lib.hid hlq
  have HC : Hid (∀ wr, Below W.heap.size W wr → wr.cell? ⟨g, 0, none⟩ = some (.slice (some ⟨gl, 0, none⟩) lq CS.length) ∧ wr.cell? ⟨g, 1, none⟩ = some (.slice (some ⟨gs, 0, none⟩) lq SS.length)) := Lib.hid (fun wr hb => by
    have h := (hT.next hb).c3
    rw [hlq] at h
    exact ⟨h.1, h.2.1⟩)
  clear hT hll hfit hle hwh hlq
  go_enter Tryd.func18, Tryd.ntmps18
  go_wp2_with fail
  go_loopg [3, 4] lq (fun m s3 s4 wr => ∃ (i : Nat) (A : Option Addr) (c : Nat), i ≤ lq ∧ m = lq - i ∧ s3 = .slice A i c ∧ s4 = .int .i64 (i : Int) ∧ Hid (I.GrE wr W.heap.size A c ((CS.take i).map elOf)) ∧ Hid (Below W.heap.size W wr))
  case atStart => exact ⟨0, none, 0, Nat.zero_le _, rfl, rfl, rfl, Lib.hid (by simpa using I.GrE.nil W W.heap.size), Lib.hid (Below.refl _ _)⟩
  case round =>
    obtain ⟨i, A, c, hi, hgk, rfl, rfl, hgr, hbe⟩ := hrel
    have HGK := Lib.hid hgk
    clear hgk
    obtain ⟨c0, c1⟩ := HC.out wr hbe.out
    by_cases hlt : i < lq
    · have hlti : (i : Int) < (lq : Int) := by omega
      have hwi : IntKind.i64.wrap ((i : Int) + 1) = (i : Int) + 1 := E.wrap_id (by omega) (by omega)
      have hqi : i < Q.length := by rw [HLQ.out]; exact hlt
      obtain ⟨⟨oa, Aa, na, ca, za, Ba, ma, da⟩, hsa, hia, hea⟩ := (HT.out.next hbe.out).el i _ (List.getElem?_eq_getElem hqi)
      obtain ⟨d0, d1, d2, d3⟩ := (HT.out.next hbe.out).c4 hsa
      simp only at d0 d1 d2 d3
      have hlen : ((CS.take i).map elOf).length = i := by
        have := HT.out.lc; rw [HLQ.out] at this
        simp; omega
      have hti : (CS.take (i + 1)).map elOf = (CS.take i).map elOf ++ [⟨oa, Aa, na, ca⟩] := by
        rw [List.take_add_one, hsa]; simp [elOf]
      obtain ⟨A2, k2, w2, hap, hgr2, hb2, x1, hs2, x2⟩ := hgr.out.one ⟨oa, Aa, na, ca⟩ 22 (by rw [hlen]; omega) hbe.out.size
      rw [hlen] at hap
      simp only at hap
      rw [← hti] at hgr2
      have HAP := Lib.hid hap
      have HGR2 := Lib.hid hgr2
      have HBE2 := Lib.hid (hbe.out.trans hb2)
      have HSA := Lib.hid hsa
      have HLT := Lib.hid hlt
      clear hap hgr2 hb2 hs2 hsa hti hlen hia hea x1 x2 hqi hlt hi hgr hbe d2 d3
      go_wp2_with (at_builtin; refine I.wpList_append_run rfl _ _ _ _ rfl _ _ rfl rfl HAP.out ?_; clear HAP)
      clear c0 c1 d0 d1
      go_loopg [5] lq (fun m s5 wr => ∃ (k : Nat), k ≤ lq ∧ m = lq - k ∧ s5 = .int .i64 (k : Int) ∧ Hid (Below w2.heap.size w2 wr))
      case atStart => exact ⟨0, Nat.zero_le _, rfl, rfl, Lib.hid (Below.refl _ _)⟩
      case round =>
        obtain ⟨k, hk, hgk, rfl, hbk⟩ := hrel
        have HGK2 := Lib.hid hgk
        clear hgk
        have hbw : Below W.heap.size W wr := HBE2.out.trans (hbk.out.mono HBE2.out.size)
        obtain ⟨c0, c1⟩ := HC.out wr hbw
        by_cases hlk : k < lq
        · have hlki : (k : Int) < (lq : Int) := by omega
          have hwk : IntKind.i64.wrap ((k : Int) + 1) = (k : Int) + 1 := E.wrap_id (by omega) (by omega)
          have hqi : i < Q.length := by rw [HLQ.out]; exact HLT.out
          have hqk : k < Q.length := by rw [HLQ.out]; exact hlk
          have hqa : Q[i]? = some Q[i] := List.getElem?_eq_getElem hqi
          have hqb : Q[k]? = some Q[k] := List.getElem?_eq_getElem hqk
          have hma : Q[i] ∈ Q := List.getElem_mem hqi
          have hmb : Q[k] ∈ Q := List.getElem_mem hqk
          obtain ⟨q, hqe⟩ : ∃ q, Q[i] = q := ⟨_, rfl⟩
          obtain ⟨p, hpe⟩ : ∃ q, Q[k] = q := ⟨_, rfl⟩
          rw [hqe] at hqa hma
          rw [hpe] at hqb hmb
          have HTW := Lib.hid (HT.out.next hbw)
          obtain ⟨⟨ob, Ab, nb, cb, zb, Bb, mb, db⟩, hsb, hib, heb⟩ := HTW.out.el k p hqb
          obtain ⟨s0, h0, hia, hea⟩ := HTW.out.el i q hqa
          rw [HSA.out] at h0
          injection h0 with h0
          subst h0
          obtain ⟨⟨Ra, ma0, ra⟩, hra, hka⟩ := HTW.out.er i q hqa
          obtain ⟨⟨Rb, mb0, rb⟩, hrb, hkb⟩ := HTW.out.er k p hqb
          obtain ⟨y1, hca, _⟩ := id hka
          obtain ⟨y2, hcb, _⟩ := id hkb
          simp only at y1 y2 hca hcb
          subst y1
          subst y2
          obtain ⟨wb, hwb⟩ : ∃ b, withinL q.2.2 p.2.2 = b := ⟨_, rfl⟩
          have hl1 := HLE.out q hma p hmb
          rw [hwb] at hl1
          have hbb : (wb != wb) = false := by simp
          have HL1 := Lib.hid hl1
          have HWB := Lib.hid hwb
          have hd : Below wr.heap.size wr wr.drew := (Below.refl _ _).drew
          have HAI := Lib.hid (I.InT.up hia hd)
          have HAE := Lib.hid (E.InP.up hea hd)
          have HBI := Lib.hid (I.InT.up hib hd)
          have HBEE := Lib.hid (E.InP.up heb hd)
          have HKA := Lib.hid (hka.up hd)
          have HKB := Lib.hid (hkb.up hd)
          have HLA := Lib.hid (HLL.out q hma)
          have HLB := Lib.hid (HLL.out p hmb)
          have HBK := Lib.hid (hbk.out.trans (hd.mono hbk.out.size))
          have HLK := Lib.hid hlk
          have HCAP := Lib.hid (And.intro hca hcb)
          have HS0 : Hid (CX [(g, 0, .slice (some ⟨gl, 0, none⟩) lq CS.length), (g, 1, .slice (some ⟨gs, 0, none⟩) lq SS.length), (gl, i * 4, .bool oa), (gl, i * 4 + 1, .slice Aa na ca), (gl, i * 4 + 2, .int .i64 za), (gl, i * 4 + 3, .slice Ba ma da), (gl, k * 4, .bool ob), (gl, k * 4 + 1, .slice Ab nb cb), (gl, k * 4 + 2, .int .i64 zb), (gl, k * 4 + 3, .slice Bb mb db), (gs, i, .slice Ra q.2.2.length ra), (gs, k, .slice Rb p.2.2.length rb)] wr.drew) := Lib.hid (by
            obtain ⟨c0, c1⟩ := HC.out wr.drew (hbw.trans (hd.mono hbw.size))
            have HTD := HTW.out.next hd
            obtain ⟨d0, d1, d2, d3⟩ := HTD.c4 HSA.out
            obtain ⟨e0, e1, e2, e3⟩ := HTD.c4 hsb
            have r0 := HTD.c1 hra
            have r1 := HTD.c1 hrb
            intro f hf
            simp only [List.mem_cons, List.not_mem_nil, or_false] at hf
            rcases hf with rfl | rfl | rfl | rfl | rfl | rfl | rfl | rfl | rfl | rfl | rfl | rfl
            · exact c0
            · exact c1
            · exact d0
            · exact d1
            · exact d2
            · exact d3
            · exact e0
            · exact e1
            · exact e2
            · exact e3
            · exact r0
            · exact r1)
          clear hqe hpe hqi hqk hqa hqb hma hmb hsb hib heb hia hea hra hka hrb hkb hl1 hwb hlk hk hca hcb hbk hbw HTW
          go_upto_region 9 with fail
          refine wp_region_held_drew (S := fun Wv => CX [(g, 0, .slice (some ⟨gl, 0, none⟩) lq CS.length), (g, 1, .slice (some ⟨gs, 0, none⟩) lq SS.length), (gl, i * 4, .bool oa), (gl, i * 4 + 1, .slice Aa na ca), (gl, i * 4 + 2, .int .i64 za), (gl, i * 4 + 3, .slice Ba ma da), (gl, k * 4, .bool ob), (gl, k * 4 + 1, .slice Ab nb cb), (gl, k * 4 + 2, .int .i64 zb), (gl, k * 4 + 3, .slice Bb mb db), (gs, i, .slice Ra q.2.2.length ra), (gs, k, .slice Rb p.2.2.length rb)] Wv) (by kernel_rfl) HS0.out (fun hS => ?_)
          clear c0 c1 hd
          generalize wr.drew = wd at *
          refine wpAnyH_take (i := 0) (v := ?_) rfl (by kernel_rfl) (by kernel_rfl) (by kernel_rfl) (fun _ _ _ h => h) (Yields.yieldsIf (Or.inl ⟨by kernel_rfl, ?_⟩)) hS ?_
          rotate_left
          · first | (intro w; go_simp; done) | (intro w; go_simp; with_reducible rfl)
          refine wpAnyH_take (i := 1) (v := ?_) rfl (by kernel_rfl) (by kernel_rfl) (by kernel_rfl) (fun _ _ _ h => h) (Yields.yieldsIf (Or.inl ⟨by kernel_rfl, ?_⟩)) hS ?_
          rotate_left
          · first | (intro w; go_simp; done) | (intro w; go_simp; with_reducible rfl)
          refine wpAnyH_take (i := 2) (v := ?_) rfl (by kernel_rfl) (by kernel_rfl) (by kernel_rfl) (fun _ _ _ h => h) (Yields.yieldsIf (Or.inl ⟨by kernel_rfl, ?_⟩)) hS ?_
          rotate_left
          · first | (intro w; go_simp; done) | (intro w; go_simp; with_reducible rfl)
          refine wpAnyH_take (i := 3) (v := ?_) rfl (by kernel_rfl) (by kernel_rfl) (by kernel_rfl) (fun _ _ _ h => h) (Or.inl ⟨by kernel_rfl, fun W hW => ?_⟩) hS ?_
          rotate_left
          · have f := hW
            simp only [CX, List.mem_cons, List.not_mem_nil, or_false, forall_eq_or_imp, forall_eq] at f
            obtain ⟨p0, p1, p2, p3, p4, p5, p6, p7, p8, p9, p10, p11⟩ := f
            first | (go_simp; done) | (go_simp; with_reducible rfl)
          refine wpAnyH_take (i := 4) (v := ?_) rfl (by kernel_rfl) (by kernel_rfl) (by kernel_rfl) (fun _ _ _ h => h) (Yields.yieldsIf (Or.inl ⟨by kernel_rfl, ?_⟩)) hS ?_
          rotate_left
          · first | (intro w; go_simp; done) | (intro w; go_simp; with_reducible rfl)
          refine wpAnyH_take (i := 5) (v := ?_) rfl (by kernel_rfl) (by kernel_rfl) (by kernel_rfl) (fun _ _ _ h => h) (Yields.yieldsIf (Or.inl ⟨by kernel_rfl, ?_⟩)) hS ?_
          rotate_left
          · first | (intro w; go_simp; done) | (intro w; go_simp; with_reducible rfl)
          refine wpAnyH_take (i := 6) (v := ?_) rfl (by kernel_rfl) (by kernel_rfl) (by kernel_rfl) (fun _ _ _ h => h) (Or.inl ⟨by kernel_rfl, fun W hW => ?_⟩) hS ?_
          rotate_left
          · have f := hW
            simp only [CX, List.mem_cons, List.not_mem_nil, or_false, forall_eq_or_imp, forall_eq] at f
            obtain ⟨p0, p1, p2, p3, p4, p5, p6, p7, p8, p9, p10, p11⟩ := f
            first | (go_simp; done) | (go_simp; with_reducible rfl)
          refine wpAnyH_take (i := 7) (v := ?_) rfl (by kernel_rfl) (by kernel_rfl) (by kernel_rfl) (fun _ _ _ h => h) (Yields.yieldsIf (Or.inl ⟨by kernel_rfl, ?_⟩)) hS ?_
          rotate_left
          · first | (intro w; go_simp; done) | (intro w; go_simp; with_reducible rfl)
          refine wpAnyH_take (i := 8) (v := ?_) rfl (by kernel_rfl) (by kernel_rfl) (by kernel_rfl) (fun _ _ _ h => h) (Yields.yieldsIf (Or.inl ⟨by kernel_rfl, ?_⟩)) hS ?_
          rotate_left
          · first | (intro w; go_simp; done) | (intro w; go_simp; with_reducible rfl)
          refine wpAnyH_take (i := 9) (v := ?_) rfl (by kernel_rfl) (by kernel_rfl) (by kernel_rfl) (fun _ _ _ h => h) (Yields.yieldsIf (Or.inl ⟨by kernel_rfl, ?_⟩)) hS ?_
          rotate_left
          · first | (intro w; go_simp; done) | (intro w; go_simp; with_reducible rfl)
          refine wpAnyH_take (i := 10) (v := ?_) rfl (by kernel_rfl) (by kernel_rfl) (by kernel_rfl) (fun _ _ _ h => h) (Or.inl ⟨by kernel_rfl, fun W hW => ?_⟩) hS ?_
          rotate_left
          · have f := hW
            simp only [CX, List.mem_cons, List.not_mem_nil, or_false, forall_eq_or_imp, forall_eq] at f
            obtain ⟨p0, p1, p2, p3, p4, p5, p6, p7, p8, p9, p10, p11⟩ := f
            first | (go_simp; done) | (go_simp; with_reducible rfl)
          refine wpAnyH_take (i := 11) (v := ?_) rfl (by kernel_rfl) (by kernel_rfl) (by kernel_rfl) (fun _ _ _ h => h) (Yields.yieldsIf (Or.inl ⟨by kernel_rfl, ?_⟩)) hS ?_
          rotate_left
          · first | (intro w; go_simp; done) | (intro w; go_simp; with_reducible rfl)
          refine wpAnyH_take (i := 12) (v := ?_) rfl (by kernel_rfl) (by kernel_rfl) (by kernel_rfl) (fun _ _ _ h => h) (Yields.yieldsIf (Or.inl ⟨by kernel_rfl, ?_⟩)) hS ?_
          rotate_left
          · first | (intro w; go_simp; done) | (intro w; go_simp; with_reducible rfl)
          refine wpAnyH_take (i := 13) (v := ?_) rfl (by kernel_rfl) (by kernel_rfl) (by kernel_rfl) (fun _ _ _ h => h) (Or.inl ⟨by kernel_rfl, fun W hW => ?_⟩) hS ?_
          rotate_left
          · have f := hW
            simp only [CX, List.mem_cons, List.not_mem_nil, or_false, forall_eq_or_imp, forall_eq] at f
            obtain ⟨p0, p1, p2, p3, p4, p5, p6, p7, p8, p9, p10, p11⟩ := f
            first | (go_simp; done) | (go_simp; with_reducible rfl)
          refine wpAnyH_take (i := 15) (v := ?_) rfl (by kernel_rfl) (by kernel_rfl) (by kernel_rfl) (fun _ _ _ h => h) (Yields.yieldsIf (Or.inl ⟨by kernel_rfl, ?_⟩)) hS ?_
          rotate_left
          · first | (intro w; go_simp; done) | (intro w; go_simp; with_reducible rfl)
          refine wpAnyH_take (i := 16) (v := ?_) rfl (by kernel_rfl) (by kernel_rfl) (by kernel_rfl) (fun _ _ _ h => h) (Yields.yieldsIf (Or.inl ⟨by kernel_rfl, ?_⟩)) hS ?_
          rotate_left
          · first | (intro w; go_simp; done) | (intro w; go_simp; with_reducible rfl)
          refine wpAnyH_take (i := 17) (v := ?_) rfl (by kernel_rfl) (by kernel_rfl) (by kernel_rfl) (fun _ _ _ h => h) (Yields.yieldsIf (Or.inl ⟨by kernel_rfl, ?_⟩)) hS ?_
          rotate_left
          · first | (intro w; go_simp; done) | (intro w; go_simp; with_reducible rfl)
          refine wpAnyH_take (i := 18) (v := ?_) rfl (by kernel_rfl) (by kernel_rfl) (by kernel_rfl) (fun _ _ _ h => h) (Or.inl ⟨by kernel_rfl, fun W hW => ?_⟩) hS ?_
          rotate_left
          · have f := hW
            simp only [CX, List.mem_cons, List.not_mem_nil, or_false, forall_eq_or_imp, forall_eq] at f
            obtain ⟨p0, p1, p2, p3, p4, p5, p6, p7, p8, p9, p10, p11⟩ := f
            first | (go_simp; done) | (go_simp; with_reducible rfl)
          refine wpAnyH_take (i := 19) (v := ?_) rfl (by kernel_rfl) (by kernel_rfl) (by kernel_rfl) (fun _ _ _ h => h) (Yields.yieldsIf (Or.inl ⟨by kernel_rfl, ?_⟩)) hS ?_
          rotate_left
          · first | (intro w; go_simp; done) | (intro w; go_simp; with_reducible rfl)
          refine wpAnyH_take (i := 20) (v := ?_) rfl (by kernel_rfl) (by kernel_rfl) (by kernel_rfl) (fun _ _ _ h => h) (Yields.yieldsIf (Or.inl ⟨by kernel_rfl, ?_⟩)) hS ?_
          rotate_left
          · first | (intro w; go_simp; done) | (intro w; go_simp; with_reducible rfl)
          refine wpAnyH_take (i := 21) (v := ?_) rfl (by kernel_rfl) (by kernel_rfl) (by kernel_rfl) (fun _ _ _ h => h) (Or.inl ⟨by kernel_rfl, fun W hW => ?_⟩) hS ?_
          rotate_left
          · have f := hW
            simp only [CX, List.mem_cons, List.not_mem_nil, or_false, forall_eq_or_imp, forall_eq] at f
            obtain ⟨p0, p1, p2, p3, p4, p5, p6, p7, p8, p9, p10, p11⟩ := f
            first | (go_simp; done) | (go_simp; with_reducible rfl)
          refine wpAnyH_take (i := 22) (v := ?_) rfl (by kernel_rfl) (by kernel_rfl) (by kernel_rfl) (fun _ _ _ h => h) (Yields.yieldsIf (Or.inl ⟨by kernel_rfl, ?_⟩)) hS ?_
          rotate_left
          · first | (intro w; go_simp; done) | (intro w; go_simp; with_reducible rfl)
          refine wpAnyH_take (i := 23) (v := ?_) rfl (by kernel_rfl) (by kernel_rfl) (by kernel_rfl) (fun _ _ _ h => h) (Yields.yieldsIf (Or.inl ⟨by kernel_rfl, ?_⟩)) hS ?_
          rotate_left
          · first | (intro w; go_simp; done) | (intro w; go_simp; with_reducible rfl)
          refine wpAnyH_take (i := 24) (v := ?_) rfl (by kernel_rfl) (by kernel_rfl) (by kernel_rfl) (fun _ _ _ h => h) (Yields.yieldsIf (Or.inl ⟨by kernel_rfl, ?_⟩)) hS ?_
          rotate_left
          · first | (intro w; go_simp; done) | (intro w; go_simp; with_reducible rfl)
          refine wpAnyH_take (i := 25) (v := ?_) rfl (by kernel_rfl) (by kernel_rfl) (by kernel_rfl) (fun _ _ _ h => h) (Or.inl ⟨by kernel_rfl, fun W hW => ?_⟩) hS ?_
          rotate_left
          · have f := hW
            simp only [CX, List.mem_cons, List.not_mem_nil, or_false, forall_eq_or_imp, forall_eq] at f
            obtain ⟨p0, p1, p2, p3, p4, p5, p6, p7, p8, p9, p10, p11⟩ := f
            first | (go_simp; done) | (go_simp; with_reducible rfl)
          refine wpAnyH_take (i := 26) (v := ?_) rfl (by kernel_rfl) (by kernel_rfl) (by kernel_rfl) (fun _ _ _ h => h) (Yields.yieldsIf (Or.inl ⟨by kernel_rfl, ?_⟩)) hS ?_
          rotate_left
          · first | (intro w; go_simp; done) | (intro w; go_simp; with_reducible rfl)
          refine wpAnyH_take (i := 27) (v := ?_) rfl (by kernel_rfl) (by kernel_rfl) (by kernel_rfl) (fun _ _ _ h => h) (Yields.yieldsIf (Or.inl ⟨by kernel_rfl, ?_⟩)) hS ?_
          rotate_left
          · first | (intro w; go_simp; done) | (intro w; go_simp; with_reducible rfl)
          refine wpAnyH_take (i := 28) (v := ?_) rfl (by kernel_rfl) (by kernel_rfl) (by kernel_rfl) (fun _ _ _ h => h) (Or.inl ⟨by kernel_rfl, fun W hW => ?_⟩) hS ?_
          rotate_left
          · have f := hW
            simp only [CX, List.mem_cons, List.not_mem_nil, or_false, forall_eq_or_imp, forall_eq] at f
            obtain ⟨p0, p1, p2, p3, p4, p5, p6, p7, p8, p9, p10, p11⟩ := f
            first | (go_simp; done) | (go_simp; with_reducible rfl)
          try go_simp
          refine wpAnyH_ready (rs := [14]) (by kernel_rfl) (by simp) ?_
          refine AllReadyH.cons rfl (fun K hK => ?_) AllReadyH.nil
          have hcall := leq_any (sin_of (s := ⟨oa, Aa, na, ca, za, Ba, ma, da⟩) HAI.out HAE.out).1.arg (sin_of (s := ⟨ob, Ab, nb, cb, zb, Bb, mb, db⟩) HBI.out HBEE.out).1.arg
          rw [HL1.out] at hcall
          unfold Sc.v sv at hcall
          simp only at hcall
          go_simp
          go_wp2_with fail
          refine hcall.mono ?_
          rintro e wx ⟨rfl, hbx⟩
          have HBX := Lib.hid (HBK.out.trans (hbx.mono HBK.out.size))
          have HKA2 := Lib.hid (HKA.out.up hbx)
          have HKB2 := Lib.hid (HKB.out.up hbx)
          have HS1 := Lib.hid (HS0.out.next hbx)
          clear hcall hbx HKA HKB HBK HAI HAE HBI HBEE HS0
          refine hK.out _ _ (HS1.out) (fun hS => ?_)
          clear hK K
          try go_simp
          refine wpAnyH_ready (rs := [29]) (by kernel_rfl) (by simp) ?_
          refine AllReadyH.cons rfl (fun K hK => ?_) AllReadyH.nil
          have hcall := within_any Ra Rb q.2.2 p.2.2 ra rb wx HKA2.out.rowB HKB2.out.rowB (by have := HLA.out; omega) (by have := HLB.out; omega) HCAP.out.1 HCAP.out.2
          rw [HWB.out] at hcall
          go_simp
          go_wp2_with fail
          refine hcall.mono ?_
          rintro e wy ⟨rfl, rfl⟩
          clear hcall
          refine hK.out _ _ (HS1.out) (fun hS => ?_)
          clear hK K
          refine wpAnyH_take (i := 30) (v := ?_) rfl (by kernel_rfl) (by kernel_rfl) (by kernel_rfl) (fun _ _ _ h => h) (Yields.yieldsIf (Or.inl ⟨by kernel_rfl, ?_⟩)) hS ?_
          rotate_left
          · first | (intro w; go_simp; done) | (intro w; go_simp; with_reducible rfl)
          try go_simp
          refine wpAnyH_done (by kernel_rfl) ?_ _
          clear HS1 hS
          go_wp2
          go_roundg (lq - (k + 1))
          case measure => have := HGK2.out; have := HLK.out; omega
          case rel => exact ⟨k + 1, by have := HLK.out; omega, rfl, by simp, HBX⟩
        · have hlki : ¬ (k : Int) < (lq : Int) := by omega
          have HGR3 := Lib.hid (HGR2.out.below hbk.out (Nat.le_refl _))
          have HBW := Lib.hid hbw
          clear hbw hbk hlk hk
          go_wp2
          go_roundg (lq - (i + 1))
          case measure => have := HGK.out; have := HLT.out; omega
          case rel => exact ⟨i + 1, A2, k2, by have := HLT.out; omega, rfl, rfl, by simp, HGR3, HBW⟩
    · obtain rfl : i = lq := by omega
      have hlti : ¬ (i : Int) < (i : Int) := by omega
      have hlen : ((CS.take i).map elOf).length = i := by
        have := HT.out.lc; rw [HLQ.out] at this
        simp; omega
      have hc := I.whole_any A c ((CS.take i).map elOf) (Q.map fun q => some q.1) wr hgr.out.row ⟨by rw [hlen]; simp [HLQ.out], fun j e T h1 h2 => (by
        rw [List.getElem?_map] at h1 h2
        cases hq : Q[j]? with
        | none => rw [hq] at h2; cases h2
        | some q =>
          rw [hq] at h2
          simp at h2
          subst h2
          obtain ⟨s0, h0, hia, hea⟩ := (HT.out.next hbe.out).el j q hq
          have hjl : j < i := by rw [← HLQ.out]; exact (List.getElem?_eq_some_iff.1 hq).1
          rw [List.getElem?_take, if_pos hjl, h0] at h1
          simp at h1
          subst h1
          have := I.arg_of hia
          rw [HFIT.out q (List.mem_of_getElem? hq)] at this
          exact this)⟩ (cap_le hgr.out) (by rw [hlen]; omega)
      rw [hlen] at hc
      have HW : Hid (I.WholeP (Q.map fun q => some q.1)) := Lib.hid ⟨by simp [HLQ.out]; omega, Q.map (·.1), by simp, HWH.out⟩
      have HBE := Lib.hid hbe.out
      clear hi hlt hlen hgr hbe
      go_wp2_with fail
      refine hc.mono ?_
      rintro e w9 ⟨b, rfl, hb, hb9⟩
      obtain rfl : b = true := hb.2 HW.out
      have HB9 := Lib.hid (HBE.out.trans (hb9.mono HBE.out.size))
      clear hc hb hb9 c0 c1
      go_wp2
      go_ret
      exact ⟨rfl, HB9.out⟩
end Go.Proofs.YtoaglkjpjolacaaDoor.S
namespace Go.Proofs.YtoaglkjpjolacaaDoor.S
open Go.RowKit
set_option linter.unusedVariables false
set_option linter.unusedSimpArgs false
theorem pick_nat (c n : Int) (h : 0 < n) : ∃ k : Nat, pickZ c n = (k : Int) ∧ (k : Int) < n := by
  obtain ⟨h1, h2⟩ := pickZ_lim c n h
  exact ⟨(pickZ c n).toNat, by omega, by omega⟩
set_option maxRecDepth 100000 in
set_option maxHeartbeats 12800000 in
theorem does_any {W : World} {B g j : Nat} (hG : Good W B g j) (hj : j < 100) (hB : B ≤ W.heap.size) (k x y : Int) (k1 : -9223372036854775808 ≤ k) (k2 : k ≤ 9223372036854775807) (x1 : -9223372036854775808 ≤ x) (x2 : x ≤ 9223372036854775807) (y1 : -9223372036854775808 ≤ y) (y2 : y ≤ 9223372036854775807) :
    Calls Tryd.prog 17 #[.pointer (some ⟨g, 0, none⟩), .agg #[.int .i64 k, .int .i64 x, .int .i64 y]] W (Goes B g (j + 1) W) := by
  obtain ⟨gl, gs, CS, SS, Q, evs, T, F, hT, hI, hq1, hq8, he, hF, hl⟩ := hG
  obtain ⟨lq, hlq⟩ : ∃ l, Q.length = l := ⟨_, rfl⟩
  obtain ⟨pa, hpa, pal⟩ := pick_nat x (lq : Int) (by omega)
  obtain ⟨pb, hpb, pbl⟩ := pick_nat y (lq : Int) (by omega)
  obtain ⟨pk, hpk, pkl⟩ := pick_nat k 4 (by omega)
  have HPA : Hid (∀ w, Calls Tryd.prog 37 #[.int .i64 x, .int .i64 (lq : Int)] w fun e w' => e = .returned (.int .i64 (pa : Int)) ∧ w' = w) := Lib.hid (fun w => by have := pick_any x (lq : Int) w x1 x2 (by omega) (by omega); rw [hpa] at this; exact this)
  have HPB : Hid (∀ w, Calls Tryd.prog 37 #[.int .i64 y, .int .i64 (lq : Int)] w fun e w' => e = .returned (.int .i64 (pb : Int)) ∧ w' = w) := Lib.hid (fun w => by have := pick_any y (lq : Int) w y1 y2 (by omega) (by omega); rw [hpb] at this; exact this)
  have HPK : Hid (∀ w, Calls Tryd.prog 37 #[.int .i64 k, .int .i64 4] w fun e w' => e = .returned (.int .i64 (pk : Int)) ∧ w' = w) := Lib.hid (fun w => by have := pick_any k 4 w k1 k2 (by omega) (by omega); rw [hpk] at this; exact this)
  have hb1 : Below W.heap.size W (W.alloc (.cells #[.int .i64 k, .int .i64 x, .int .i64 y] 48)) := (Below.refl _ W).alloc (Nat.le_refl _) _
  have HT1 := Lib.hid (hT.next hb1)
  have HBE1 := Lib.hid (hb1.mono hB)
  have HX1 : Hid (CX [(W.heap.size, 0, .int .i64 k), (W.heap.size, 1, .int .i64 x), (W.heap.size, 2, .int .i64 y)] (W.alloc (.cells #[.int .i64 k, .int .i64 x, .int .i64 y] 48))) := Lib.hid (by
    intro f hf
    simp only [List.mem_cons, List.not_mem_nil, or_false] at hf
    rcases hf with rfl | rfl | rfl <;> simp [go_sem])
  have HI := Lib.hid hI
  have HL := Lib.hid hl
  have HLQ := Lib.hid hlq
  have HST : Hid (∀ w, Stt w B g gl gs CS SS Q evs.length → Below B W w → (Calls Tryd.prog 38 #[.pointer (some ⟨g, 0, none⟩), .int .i64 (pa : Int)] w (Goes B g (j + 1) w)) ∧ (lq < 8 → Calls Tryd.prog 39 #[.pointer (some ⟨g, 0, none⟩), .int .i64 (pa : Int)] w (Goes B g (j + 1) w)) ∧ ∀ q : Bool, Calls Tryd.prog 40 #[.pointer (some ⟨g, 0, none⟩), .int .i64 (pa : Int), .int .i64 (pb : Int), .bool q] w (Goes B g (j + 1) w)) := Lib.hid (fun w h hb => ⟨gevent h hI hq1 hq8 he hF hl hj (Nat.le_trans hB hb.size) (by omega), fun h8 => gfork h hI hq1 (by omega) he hF hl hj (Nat.le_trans hB hb.size) (by omega), fun q => gjoin q h hI hq1 hq8 he hF hl hj (Nat.le_trans hB hb.size) (by omega) (by omega)⟩)
  have HSAME : Hid (∀ w, Stt w B g gl gs CS SS Q evs.length → Good w B g (j + 1)) := Lib.hid (fun w h => ⟨gl, gs, CS, SS, Q, evs, T, F, h, hI, hq1, hq8, by omega, by omega, fun q hq => Nat.le_trans (hl q hq) (by omega)⟩)
  have hlq8 : (lq : Int) ≤ 8 := by omega
  have hpk4 : pk = 0 ∨ pk = 1 ∨ pk = 2 ∨ pk = 3 := by omega
  clear hT hI hq1 hq8 he hF hl hlq hpa hpb hpk pal pbl pkl k1 k2 x1 x2 y1 y2 hb1 hj
  go_enter Tryd.func17, Tryd.ntmps17
  go_upto_region 1 with fail
  generalize W.alloc (.cells #[.int .i64 k, .int .i64 x, .int .i64 y] 48) = w1 at *
  have hd : Below w1.heap.size w1 w1.drew := (Below.refl _ _).drew
  have HT2 := Lib.hid (HT1.out.next hd)
  have HBE2 := Lib.hid (HBE1.out.trans (hd.mono (Nat.le_trans hB HBE1.out.size)))
  have HX2 := Lib.hid (HX1.out.next hd)
  have HS2 : Hid (CX [(g, 0, .slice (some ⟨gl, 0, none⟩) lq CS.length), (W.heap.size, 0, .int .i64 k), (W.heap.size, 1, .int .i64 x), (W.heap.size, 2, .int .i64 y)] w1.drew) := Lib.hid (by
    obtain ⟨c0, _, _⟩ := HT2.out.c3
    rw [HLQ.out] at c0
    intro f hf
    rcases List.mem_cons.1 hf with rfl | hf
    · exact c0
    · exact HX2.out f hf)
  refine wp_region_held_drew (S := fun Wv => CX [(g, 0, .slice (some ⟨gl, 0, none⟩) lq CS.length), (W.heap.size, 0, .int .i64 k), (W.heap.size, 1, .int .i64 x), (W.heap.size, 2, .int .i64 y)] Wv) (by kernel_rfl) HS2.out (fun hS => ?_)
  clear hd HT1 HBE1 HX1
  generalize w1.drew = w2 at *
  refine wpAnyH_take (i := 0) (v := ?_) rfl (by kernel_rfl) (by kernel_rfl) (by kernel_rfl) (fun _ _ _ h => h) (Yields.yieldsIf (Or.inl ⟨by kernel_rfl, ?_⟩)) hS ?_
  rotate_left
  · first | (intro w; go_simp; done) | (intro w; go_simp; with_reducible rfl)
  refine wpAnyH_take (i := 1) (v := ?_) rfl (by kernel_rfl) (by kernel_rfl) (by kernel_rfl) (fun _ _ _ h => h) (Or.inl ⟨by kernel_rfl, fun W hW => ?_⟩) hS ?_
  rotate_left
  · have f := hW
    simp only [CX, List.mem_cons, List.not_mem_nil, or_false, forall_eq_or_imp, forall_eq] at f
    obtain ⟨p0, p1, p2, p3⟩ := f
    first | (go_simp; done) | (go_simp; with_reducible rfl)
  refine wpAnyH_take (i := 2) (v := ?_) rfl (by kernel_rfl) (by kernel_rfl) (by kernel_rfl) (fun _ _ _ h => h) (Yields.yieldsIf (Or.inl ⟨by kernel_rfl, ?_⟩)) hS ?_
  rotate_left
  · first | (intro w; go_simp; done) | (intro w; go_simp; with_reducible rfl)
  refine wpAnyH_take (i := 3) (v := ?_) rfl (by kernel_rfl) (by kernel_rfl) (by kernel_rfl) (fun _ _ _ h => h) (Yields.yieldsIf (Or.inl ⟨by kernel_rfl, ?_⟩)) hS ?_
  rotate_left
  · first | (intro w; go_simp; done) | (intro w; go_simp; with_reducible rfl)
  refine wpAnyH_take (i := 4) (v := ?_) rfl (by kernel_rfl) (by kernel_rfl) (by kernel_rfl) (fun _ _ _ h => h) (Yields.yieldsIf (Or.inl ⟨by kernel_rfl, ?_⟩)) hS ?_
  rotate_left
  · first | (intro w; go_simp; done) | (intro w; go_simp; with_reducible rfl)
  refine wpAnyH_take (i := 5) (v := ?_) rfl (by kernel_rfl) (by kernel_rfl) (by kernel_rfl) (fun _ _ _ h => h) (Or.inl ⟨by kernel_rfl, fun W hW => ?_⟩) hS ?_
  rotate_left
  · have f := hW
    simp only [CX, List.mem_cons, List.not_mem_nil, or_false, forall_eq_or_imp, forall_eq] at f
    obtain ⟨p0, p1, p2, p3⟩ := f
    first | (go_simp; done) | (go_simp; with_reducible rfl)
  refine wpAnyH_take (i := 6) (v := ?_) rfl (by kernel_rfl) (by kernel_rfl) (by kernel_rfl) (fun _ _ _ h => h) (Yields.yieldsIf (Or.inl ⟨by kernel_rfl, ?_⟩)) hS ?_
  rotate_left
  · first | (intro w; go_simp; done) | (intro w; go_simp; with_reducible rfl)
  try go_simp
  refine wpAnyH_ready (rs := [7]) (by kernel_rfl) (by simp) ?_
  refine AllReadyH.cons rfl (fun K hK => ?_) AllReadyH.nil
  have hcall := HPA.out w2
  go_simp
  go_wp2_with fail
  refine hcall.mono ?_
  rintro e w' ⟨rfl, hww⟩
  obtain rfl : w2 = w' := hww.symm
  clear hcall
  refine hK.out _ _ (HS2.out) (fun hS => ?_)
  clear hK K
  refine wpAnyH_take (i := 8) (v := ?_) rfl (by kernel_rfl) (by kernel_rfl) (by kernel_rfl) (fun _ _ _ h => h) (Yields.yieldsIf (Or.inl ⟨by kernel_rfl, ?_⟩)) hS ?_
  rotate_left
  · first | (intro w; go_simp; done) | (intro w; go_simp; with_reducible rfl)
  try go_simp
  refine wpAnyH_done (by kernel_rfl) ?_ _
  clear HS2 hS
  go_upto_region 2 with fail
  have hd : Below w2.heap.size w2 w2.drew := (Below.refl _ _).drew
  have HT3 := Lib.hid (HT2.out.next hd)
  have HBE3 := Lib.hid (HBE2.out.trans (hd.mono (Nat.le_trans hB HBE2.out.size)))
  have HX3 := Lib.hid (HX2.out.next hd)
  have HS3 : Hid (CX [(g, 0, .slice (some ⟨gl, 0, none⟩) lq CS.length), (W.heap.size, 0, .int .i64 k), (W.heap.size, 1, .int .i64 x), (W.heap.size, 2, .int .i64 y)] w2.drew) := Lib.hid (by
    obtain ⟨c0, _, _⟩ := HT3.out.c3
    rw [HLQ.out] at c0
    intro f hf
    rcases List.mem_cons.1 hf with rfl | hf
    · exact c0
    · exact HX3.out f hf)
  refine wp_region_held_drew (S := fun Wv => CX [(g, 0, .slice (some ⟨gl, 0, none⟩) lq CS.length), (W.heap.size, 0, .int .i64 k), (W.heap.size, 1, .int .i64 x), (W.heap.size, 2, .int .i64 y)] Wv) (by kernel_rfl) HS3.out (fun hS => ?_)
  clear hd HT2 HBE2 HX2
  generalize w2.drew = w3 at *
  refine wpAnyH_take (i := 0) (v := ?_) rfl (by kernel_rfl) (by kernel_rfl) (by kernel_rfl) (fun _ _ _ h => h) (Yields.yieldsIf (Or.inl ⟨by kernel_rfl, ?_⟩)) hS ?_
  rotate_left
  · first | (intro w; go_simp; done) | (intro w; go_simp; with_reducible rfl)
  refine wpAnyH_take (i := 1) (v := ?_) rfl (by kernel_rfl) (by kernel_rfl) (by kernel_rfl) (fun _ _ _ h => h) (Or.inl ⟨by kernel_rfl, fun W hW => ?_⟩) hS ?_
  rotate_left
  · have f := hW
    simp only [CX, List.mem_cons, List.not_mem_nil, or_false, forall_eq_or_imp, forall_eq] at f
    obtain ⟨p0, p1, p2, p3⟩ := f
    first | (go_simp; done) | (go_simp; with_reducible rfl)
  refine wpAnyH_take (i := 2) (v := ?_) rfl (by kernel_rfl) (by kernel_rfl) (by kernel_rfl) (fun _ _ _ h => h) (Yields.yieldsIf (Or.inl ⟨by kernel_rfl, ?_⟩)) hS ?_
  rotate_left
  · first | (intro w; go_simp; done) | (intro w; go_simp; with_reducible rfl)
  refine wpAnyH_take (i := 3) (v := ?_) rfl (by kernel_rfl) (by kernel_rfl) (by kernel_rfl) (fun _ _ _ h => h) (Yields.yieldsIf (Or.inl ⟨by kernel_rfl, ?_⟩)) hS ?_
  rotate_left
  · first | (intro w; go_simp; done) | (intro w; go_simp; with_reducible rfl)
  refine wpAnyH_take (i := 4) (v := ?_) rfl (by kernel_rfl) (by kernel_rfl) (by kernel_rfl) (fun _ _ _ h => h) (Yields.yieldsIf (Or.inl ⟨by kernel_rfl, ?_⟩)) hS ?_
  rotate_left
  · first | (intro w; go_simp; done) | (intro w; go_simp; with_reducible rfl)
  refine wpAnyH_take (i := 5) (v := ?_) rfl (by kernel_rfl) (by kernel_rfl) (by kernel_rfl) (fun _ _ _ h => h) (Or.inl ⟨by kernel_rfl, fun W hW => ?_⟩) hS ?_
  rotate_left
  · have f := hW
    simp only [CX, List.mem_cons, List.not_mem_nil, or_false, forall_eq_or_imp, forall_eq] at f
    obtain ⟨p0, p1, p2, p3⟩ := f
    first | (go_simp; done) | (go_simp; with_reducible rfl)
  refine wpAnyH_take (i := 6) (v := ?_) rfl (by kernel_rfl) (by kernel_rfl) (by kernel_rfl) (fun _ _ _ h => h) (Yields.yieldsIf (Or.inl ⟨by kernel_rfl, ?_⟩)) hS ?_
  rotate_left
  · first | (intro w; go_simp; done) | (intro w; go_simp; with_reducible rfl)
  try go_simp
  refine wpAnyH_ready (rs := [7]) (by kernel_rfl) (by simp) ?_
  refine AllReadyH.cons rfl (fun K hK => ?_) AllReadyH.nil
  have hcall := HPB.out w3
  go_simp
  go_wp2_with fail
  refine hcall.mono ?_
  rintro e w' ⟨rfl, hww⟩
  obtain rfl : w3 = w' := hww.symm
  clear hcall
  refine hK.out _ _ (HS3.out) (fun hS => ?_)
  clear hK K
  refine wpAnyH_take (i := 8) (v := ?_) rfl (by kernel_rfl) (by kernel_rfl) (by kernel_rfl) (fun _ _ _ h => h) (Yields.yieldsIf (Or.inl ⟨by kernel_rfl, ?_⟩)) hS ?_
  rotate_left
  · first | (intro w; go_simp; done) | (intro w; go_simp; with_reducible rfl)
  try go_simp
  refine wpAnyH_done (by kernel_rfl) ?_ _
  clear HS3 hS
  have f := HX3.out
  simp only [CX, List.mem_cons, List.not_mem_nil, or_false, forall_eq_or_imp, forall_eq] at f
  obtain ⟨q0, q1, q2⟩ := f
  go_wp2_with fail
  refine (HPK.out _).mono ?_
  rintro e w' ⟨rfl, hww⟩
  obtain rfl : w3 = w' := hww.symm
  have HC := Lib.hid (HST.out _ HT3.out HBE3.out)
  have HSM := Lib.hid (HSAME.out _ HT3.out)
  obtain ⟨c0, _, _⟩ := HT3.out.c3
  rw [HLQ.out] at c0
  clear HST HSAME HPA HPB HPK
  rcases hpk4 with rfl | rfl | rfl | rfl
  · go_wp2_with fail
    refine (HC.out.1).mono ?_
    rintro e w9 ⟨rfl, hG9, hb9⟩
    have HG9 := Lib.hid hG9
    have HB9 := Lib.hid (HBE3.out.trans hb9)
    clear hG9 hb9
    go_wp2
    go_ret
    exact ⟨rfl, HG9.out, HB9.out⟩
  · by_cases h8 : (8 : Int) ≤ (lq : Int)
    · go_wp2
      go_ret
      exact ⟨rfl, HSM.out, HBE3.out⟩
    · have hlt8 : lq < 8 := by omega
      have HF := Lib.hid (HC.out.2.1 hlt8)
      clear hlt8
      go_wp2_with fail
      refine (HF.out).mono ?_
      rintro e w9 ⟨rfl, hG9, hb9⟩
      have HG9 := Lib.hid hG9
      have HB9 := Lib.hid (HBE3.out.trans hb9)
      clear hG9 hb9
      go_wp2
      go_ret
      exact ⟨rfl, HG9.out, HB9.out⟩
  · go_wp2_with fail
    refine (HC.out.2.2 false).mono ?_
    rintro e w9 ⟨rfl, hG9, hb9⟩
    have HG9 := Lib.hid hG9
    have HB9 := Lib.hid (HBE3.out.trans hb9)
    clear hG9 hb9
    go_wp2
    go_ret
    exact ⟨rfl, HG9.out, HB9.out⟩
  · go_wp2_with fail
    refine (HC.out.2.2 true).mono ?_
    rintro e w9 ⟨rfl, hG9, hb9⟩
    have HG9 := Lib.hid hG9
    have HB9 := Lib.hid (HBE3.out.trans hb9)
    clear hG9 hb9
    go_wp2
    go_ret
    exact ⟨rfl, HG9.out, HB9.out⟩
theorem stands_good {W : World} {B g j : Nat} (hG : Good W B g j) (hj : j ≤ 100) : Calls Tryd.prog 18 #[.pointer (some ⟨g, 0, none⟩)] W fun e W' => e = .returned (.bool true) ∧ Below W.heap.size W W' := by
  obtain ⟨gl, gs, CS, SS, Q, evs, T, F, hT, hI, hq1, hq8, he, hF, hl⟩ := hG
  refine stands_any hT hq8 (fun q hq => Nat.le_trans (hl q hq) (by omega)) (fun q hq => (hI.fits (by omega) (by omega) hq).1) (fun q hq p hp => ?_) hI.one
  have h1 := hI.fits (by omega) (by omega) hq
  have h2 := hI.fits (by omega) (by omega) hp
  rw [h1.1, h2.1, E.fit_of h1.2, E.fit_of h2.2]
  simp only [Option.isSome_some, Bool.and_true, Bool.true_and, E.leqO]
  rw [Bool.eq_iff_iff, withinL_iff]
  exact hI.stands hq hp
/-- The beginning. -/
theorem good_start (w w2 : World) (hb : Below w.heap.size w w2) : Good (((w2.alloc (.cells #[.bool true, .slice none 0 0, .int .i64 0, .slice none 0 0] 29)).alloc (.cells #[.slice none 0 0] 74)).alloc (.cells #[.slice (some ⟨w2.heap.size, 0, none⟩) 1 1, .slice (some ⟨w2.heap.size + 1, 0, none⟩) 1 1, .int .i64 0] 45)) w.heap.size (w2.heap.size + 1 + 1) 0 := by
  have h1 : Blk (w2.alloc (.cells #[.bool true, .slice none 0 0, .int .i64 0, .slice none 0 0] 29)) w2.heap.size 29 (cellsS [⟨true, none, 0, 0, 0, none, 0, 0⟩]) := heap_alloc_new w2 _
  obtain ⟨wa, hwa⟩ : ∃ wa, w2.alloc (.cells #[.bool true, .slice none 0 0, .int .i64 0, .slice none 0 0] 29) = wa := ⟨_, rfl⟩
  have hs1 : wa.heap.size = w2.heap.size + 1 := by rw [← hwa]; simp
  rw [hwa] at h1 ⊢
  have h2 : Blk (wa.alloc (.cells #[.slice none 0 0] 74)) wa.heap.size 74 (cellsR [⟨none, 0, 0⟩]) := heap_alloc_new wa _
  have h1b := h1.below (w' := wa.alloc (.cells #[.slice none 0 0] 74)) ((Below.refl _ _).alloc (Nat.le_refl _) _) h1.lt
  obtain ⟨wb, hwb⟩ : ∃ wb, wa.alloc (.cells #[.slice none 0 0] 74) = wb := ⟨_, rfl⟩
  have hs2 : wb.heap.size = w2.heap.size + 1 + 1 := by rw [← hwb]; simp [hs1]
  rw [hwb] at h2 h1b ⊢
  rw [hs1] at h2
  have h3 : Blk (wb.alloc (.cells #[.slice (some ⟨w2.heap.size, 0, none⟩) 1 1, .slice (some ⟨w2.heap.size + 1, 0, none⟩) 1 1, .int .i64 0] 45)) wb.heap.size 45 [.slice (some ⟨w2.heap.size, 0, none⟩) 1 1, .slice (some ⟨w2.heap.size + 1, 0, none⟩) 1 1, .int .i64 0] := heap_alloc_new wb _
  rw [hs2] at h3
  have hbb : Below wb.heap.size wb (wb.alloc (.cells #[.slice (some ⟨w2.heap.size, 0, none⟩) 1 1, .slice (some ⟨w2.heap.size + 1, 0, none⟩) 1 1, .int .i64 0] 45)) := (Below.refl _ _).alloc (Nat.le_refl _) _
  have h1c := h1b.below hbb h1b.lt
  have h2c := h2.below hbb h2.lt
  have hsz := hb.size
  refine ⟨w2.heap.size, w2.heap.size + 1, [⟨true, none, 0, 0, 0, none, 0, 0⟩], [⟨none, 0, 0⟩], [(.leaf true, .leaf 0, [])], [], .leaf false, 0, ⟨h3, h1c, h2c, Nat.le_refl _, Nat.le_refl _, fun j q hq => ?_, fun j q hq => ?_, by omega, by omega, by omega⟩, inv_seed, Nat.le_refl _, by simp, Nat.le_refl _, Nat.le_refl _, fun q hq => by simp at hq; subst hq; simp⟩
  · cases j with
    | zero => simp at hq; subst hq; exact ⟨_, rfl, ⟨none, 0, rfl⟩, ⟨none, 0, rfl⟩⟩
    | succ j => simp at hq
  · cases j with
    | zero => simp at hq; subst hq; exact ⟨_, rfl, rfl, Nat.le_refl _, .inl rfl⟩
    | succ j => simp at hq
end Go.Proofs.YtoaglkjpjolacaaDoor.S
namespace Go.Proofs.YtoaglkjpjolacaaDoor.S
open Go.RowKit
set_option linter.unusedVariables false
set_option linter.unusedSimpArgs false
set_option maxRecDepth 100000 in
set_option maxHeartbeats 12800000 in
theorem causes_walk (A0 : Option Addr) (len c0 : Nat) (w : World) (htab : E.Tab w) (hr : RowZ w A0 len) (hl : len ≤ c0) (hbig : c0 ≤ maxLen) : Calls Tryd.prog 5 #[.slice A0 len c0] w fun e w' => e = .returned (.bool true) ∧ Below w.heap.size w w' := by
  unfold maxLen at hbig
  have HTB := Lib.hid htab
  have HR := Lib.hid hr
  clear htab hr
  go_enter Tryd.func5, Tryd.ntmps5
  go_wp2_with fail
  refine (shown_any _ HTB.out).mono ?_
  rintro e w1 ⟨rfl, hb1⟩
  have HB1 := Lib.hid hb1
  clear hb1
  go_wp2_with fail
  refine (seed_any w1).mono ?_
  rintro e w2 ⟨rfl, hb2⟩
  have HB2 := Lib.hid (HB1.out.trans (hb2.mono HB1.out.size))
  clear hb2 HB1
  unfold sv
  have HG := Lib.hid (good_start w w2 HB2.out)
  have hb3 : Below w2.heap.size w2 (((w2.alloc (.cells #[.bool true, .slice none 0 0, .int .i64 0, .slice none 0 0] 29)).alloc (.cells #[.slice none 0 0] 74)).alloc (.cells #[.slice (some ⟨w2.heap.size, 0, none⟩) 1 1, .slice (some ⟨w2.heap.size + 1, 0, none⟩) 1 1, .int .i64 0] 45)) := (((Below.refl _ w2).alloc (Nat.le_refl _) _).alloc (by simp) _).alloc (by simp; omega) _
  have HB3 := Lib.hid (HB2.out.trans (hb3.mono HB2.out.size))
  clear hb3 HB2
  go_upto_region 3 with fail
  generalize ((w2.alloc (.cells #[.bool true, .slice none 0 0, .int .i64 0, .slice none 0 0] 29)).alloc (.cells #[.slice none 0 0] 74)).alloc (.cells #[.slice (some ⟨w2.heap.size, 0, none⟩) 1 1, .slice (some ⟨w2.heap.size + 1, 0, none⟩) 1 1, .int .i64 0] 45) = w3 at *
  generalize w2.heap.size + 1 + 1 = g at *
  go_wp2_with fail
  go_loopg [5] len (fun m s5 wr => ∃ (j : Nat), j ≤ len ∧ j ≤ 100 ∧ m = len - j ∧ s5 = .int .i64 (j : Int) ∧ Hid (Good wr w.heap.size g j) ∧ Hid (Below w.heap.size w wr))
  case atStart => exact ⟨0, Nat.zero_le _, Nat.zero_le _, rfl, rfl, HG, HB3⟩
  case round =>
    obtain ⟨j, hj, hj100, hgk, rfl, hg, hb⟩ := hrel
    have HGK := Lib.hid hgk
    clear hgk
    by_cases hlt : j < len
    · have hlti : (j : Int) < (len : Int) := by omega
      by_cases h100 : j < 100
      · have h100i : (j : Int) < 100 := by omega
        have hwj : IntKind.i64.wrap ((j : Int) + 1) = (j : Int) + 1 := E.wrap_id (by omega) (by omega)
        obtain ⟨b, off, rfl, ⟨zk, zx, zy⟩, ⟨⟨k1, k2⟩, ⟨x1, x2⟩, ⟨y1, y2⟩⟩, d0, d1, d2⟩ := (HR.out.up hb.out) j hlt
        have HD := Lib.hid (does_any hg.out h100 hb.out.size zk zx zy k1 k2 x1 x2 y1 y2)
        have HLT := Lib.hid hlt
        have H100 := Lib.hid h100
        clear k1 k2 x1 x2 y1 y2 hlt h100 hg
        simp only at d0 d1 d2
        go_wp2_with fail
        refine HD.out.mono ?_
        rintro e w4 ⟨rfl, hg4, hb4⟩
        have HG4 := Lib.hid hg4
        have HB4 := Lib.hid (hb.out.trans hb4)
        clear hg4 hb4 d0 d1 d2 HD
        go_wp2_with fail
        refine (stands_good HG4.out (by have := H100.out; omega)).mono ?_
        rintro e w5 ⟨rfl, hb5⟩
        have HG5 := Lib.hid (HG4.out.next hb5)
        have HB5 := Lib.hid (HB4.out.trans (hb5.mono HB4.out.size))
        clear hb5 HG4 HB4
        go_wp2
        go_roundg (len - (j + 1))
        case measure => have := HGK.out; have := HLT.out; omega
        case rel => exact ⟨j + 1, by have := HLT.out; omega, by have := H100.out; omega, rfl, by simp, HG5, HB5⟩
      · have h100i : ¬ (j : Int) < 100 := by omega
        clear h100 hlt
        go_wp2
        go_ret
        exact ⟨rfl, hb.out⟩
    · have hlti : ¬ (j : Int) < (len : Int) := by omega
      clear hlt
      go_wp2
      go_ret
      exact ⟨rfl, hb.out⟩
end Go.Proofs.YtoaglkjpjolacaaDoor.S
