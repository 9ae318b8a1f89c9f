/-
  The reference's Lay.
  The program's code; the nodes' bits, one behind the other, are the tree's; the word that gathers bits.
-/
import Derived.Test.YtkpefelakhbkhaaIRLay
import Derived.Test.YtkpefelakhbkhaaILayText
import Derived.Test.YtkpefelakhbkhaaIOnly
namespace Go.Proofs.Ytkpefelakhbkhaa.I
open Go.RowKit

/-- Bytes, a place and an error's number. -/
def AnsB (r : Option (List Nat × Nat)) (w : World) (e : Ending) (w' : World) : Prop :=
  (match r with
    | some q => ∃ A c, e = .returned (.tuple #[.slice A q.1.length c, .int .i64 (q.2 : Int), .int .i64 0]) ∧ BR w' w'.heap.size A q.1
    | none => e = .returned (.tuple #[.slice none 0 0, .int .i64 0, .int .i64 2])) ∧ Below w.heap.size w w'
/-- What Lay answers. -/
def layO (l : List Nat) (n : Int) (T : Option Tr) : Option (List Nat × Nat) := if M.rightB l n = true then (match T with
    | some t => some (M.putL l n.toNat (bitsT t.norm), n.toNat + (bitsT t.norm).length)
    | none => none) else none
theorem make_own (L : Nat) (hL : L ≤ 140737488355328) (w : World) : ∃ W, (Instr.makeSlice 40 (.int .i64 0) (.int .i64 (L : Int))).run Try.prog w = .ok (.slice (some ⟨w.heap.size, 0, none⟩) 0 L) W ∧ Go.Proofs.Ytkpefelakhbkhaa.OwnB W w.heap.size w.heap.size L [] ∧ Below w.heap.size w W := by
  obtain ⟨i0, hi, hz0, hz1, hz2⟩ := info_parts Go.Proofs.Ytkpefelakhbkhaa.info5
  have h := run_make (P := Try.prog) w 40 5 i0 (.int .u8 0) Try.underlying40 hi hz0 .i64 .i64 0 (L : Int) (by omega) (by omega) (by rw [hz2]; omega) (by omega)
  refine ⟨_, h.trans (by rw [show ((L : Int)).toNat = L by omega]; rfl), ?_, (Below.refl _ w).alloc (Nat.le_refl _) _⟩
  refine ⟨by simp [Go.Proofs.Ytkpefelakhbkhaa.cellsB], .inr ⟨w.heap.size, L, _, rfl, Nat.le_refl _, heap_alloc_new w _, Nat.zero_le _, by unfold maxLen; omega, ?_, by simp [Go.Proofs.Ytkpefelakhbkhaa.cellsB]⟩⟩
  rw [size_madeCells, hz1]

set_option maxRecDepth 100000 in
set_option maxHeartbeats 6400000 in
theorem rLay_tree (A : Option Addr) (c : Nat) (l : List Nat) (n : Int) (T : Option Tr) (v : Value) (w : World) (hr : BR w w.heap.size A l) (hl : l.length ≤ 140737488351232) (h0 : -9223372036854775808 ≤ n) (h1 : n < 9223372036854775808) (hv : Arg w T v) :
    Calls Try.prog 33 #[.slice A l.length c, .int .i64 n, v] w (AnsB (layO l n T) w) := by
  obtain ⟨o, B, m, d, rfl⟩ := hv.form
  have HX := Lib.hid ((XS.begin w).boxed (.bool o) (.slice B m d))
  simp only [List.nil_append] at HX
  have hcr := Go.Proofs.Ytkpefelakhbkhaa.rright_any A c l n (w.alloc (.cells #[.bool o, .slice B m d] 24)) _ (BR.up hr HX.out.bel) (by omega) h0 h1
  have hcn := rnorm_arg (hv.up HX.out.bel)
  have HR := Lib.hid hr
  have HSM : Hid (∀ t, T = some t → t.nodes ≤ 2047) := fun t ht => by subst ht; exact hv.inT.2.2
  have HRB : Hid (M.rightB l n = true → 0 ≤ n ∧ M.Valid l n.toNat) := fun h => M.rightB_true h
  have HLO : Hid (layO l n T = if M.rightB l n = true then (match T with | some t => some (M.putL l n.toNat (bitsT t.norm), n.toNat + (bitsT t.norm).length) | none => none) else none) := rfl
  obtain ⟨q, hq⟩ : ∃ q, M.rightB l n = q := ⟨_, rfl⟩
  rw [hq] at hcr HRB HLO
  unfold tv at hcn ⊢
  clear hr hv hq h0 h1
  go_enter Try.func33, Try.ntmps33
  go_wp2_with fail
  refine hcr.mono ?_
  rintro e w1 ⟨rfl, rfl⟩
  clear hcr
  go_wp2_with fail
  refine hcn.mono ?_
  rintro e w2 ⟨v2, rfl, h2, hb2⟩
  obtain ⟨o2, B2, m2, d2, rfl⟩ := h2.form
  have HX2 := Lib.hid ((HX.out.next hb2).boxed (.bool o2) (.slice B2 m2 d2))
  simp only [List.cons_append, List.nil_append] at HX2
  have H2 := Lib.hid (h2.up ((Below.refl _ w2).alloc (Nat.le_refl _) (.cells #[.bool o2, .slice B2 m2 d2] 24)))
  clear hcn HX hb2 h2
  unfold tv
  cases q with
  | false =>
    have HE : Hid (layO l n T = none) := by show _ = _; rw [HLO.out]; rfl
    clear HLO HRB HSM H2
    go_wp2
    refine bodyPost_ret (v := .tuple #[.slice none 0 0, .int .i64 0, .int .i64 2]) (by simp [results, Try.f33, go_sem]) rfl ?_
    rw [HE.out]
    exact ⟨rfl, HX2.out.bel⟩
  | true =>
    cases T with
    | none =>
      have HE : Hid (layO l n none = none) := by show _ = _; rw [HLO.out]; rfl
      rw [show normR none = (.leaf false, 2) from rfl]
      clear HLO HRB HSM H2
      go_wp2
      refine bodyPost_ret (v := .tuple #[.slice none 0 0, .int .i64 0, .int .i64 2]) (by simp [results, Try.f33, go_sem]) rfl ?_
      rw [HE.out]
      exact ⟨rfl, HX2.out.bel⟩
    | some t =>
      rw [show normR (some t) = (t.norm, 0) from rfl] at *
      obtain ⟨hn0, hV⟩ := HRB.out rfl
      obtain ⟨N, rfl⟩ : ∃ N : Nat, n = (N : Int) := ⟨n.toNat, by omega⟩
      simp only [Int.toNat_natCast] at hV
      have HE : Hid (layO l (N : Int) (some t) = some (M.putL l N (bitsT t.norm), N + (bitsT t.norm).length)) := by show _ = _; rw [HLO.out]; simp only [if_true, Int.toNat_natCast]
      have hnn := HSM.out t rfl
      have hbl := bits_len t.norm
      have hnm := norm_nodes t
      have hN : N ≤ 1125899906842624 := by have := hV.1; omega
      have HV := Lib.hid hV
      have hlen : l.length + (bitsT t.norm).length ≤ 140737488355000 := by omega
      have HLEN := Lib.hid hlen
      have hXD := HX2.out.drew
      have HB2 := Lib.hid (H2.out.up ((Below.refl (w2.alloc (.cells #[.bool o2, .slice B2 m2 d2] 24)).heap.size (w2.alloc (.cells #[.bool o2, .slice B2 m2 d2] 24))).drew))
      simp only at HB2
      clear HLO HRB HSM H2 HX2 hV hbl hnm hnn hlen hn0
      go_wp2
      refine wp_region_held_drew (S := fun W => XS w [(w.heap.size, .bool o, .slice B m d), (w2.heap.size, .bool o2, .slice B2 m2 d2)] [] W) (by kernel_rfl) hXD (fun hS => ?_)
      clear hXD
      generalize (w2.alloc (.cells #[.bool o2, .slice B2 m2 d2] 24)).drew = wd at hS HB2 ⊢
      refine wpAnyH_take (i := 0) (v := ?_) rfl (by kernel_rfl) (by kernel_rfl) (by kernel_rfl) (fun _ _ _ h => h) (Yields.yieldsIf (Or.inl ⟨by kernel_rfl, ?_⟩)) hS ?_
      rotate_left
      · first | (intro w; go_simp; done) | (intro w; go_simp; with_reducible rfl)
      refine wpAnyH_take (i := 1) (v := ?_) rfl (by kernel_rfl) (by kernel_rfl) (by kernel_rfl) (fun _ _ _ h => h) (Yields.yieldsIf (Or.inl ⟨by kernel_rfl, ?_⟩)) hS ?_
      rotate_left
      · first | (intro w; go_simp; done) | (intro w; go_simp; with_reducible rfl)
      refine wpAnyH_take (i := 3) (v := ?_) rfl (by kernel_rfl) (by kernel_rfl) (by kernel_rfl) (fun _ _ _ h => h) (Yields.yieldsIf (Or.inl ⟨by kernel_rfl, ?_⟩)) hS ?_
      rotate_left
      · first | (intro w; go_simp; done) | (intro w; go_simp; with_reducible rfl)
      refine wpAnyH_take (i := 5) (v := ?_) rfl (by kernel_rfl) (by kernel_rfl) (by kernel_rfl) (fun _ _ _ h => h) (Yields.yieldsIf (Or.inl ⟨by kernel_rfl, ?_⟩)) hS ?_
      rotate_left
      · first | (intro w; go_simp; done) | (intro w; go_simp; with_reducible rfl)
      refine wpAnyH_take (i := 6) (v := ?_) rfl (by kernel_rfl) (by kernel_rfl) (by kernel_rfl) (fun _ _ _ h => h) (Or.inl ⟨by kernel_rfl, fun W hW => ?_⟩) hS ?_
      rotate_left
      · have f := hW.at0
        simp only [List.mem_cons, List.not_mem_nil, or_false, forall_eq_or_imp, forall_eq] at f
        obtain ⟨⟨p0, q0, _⟩, p1, q1, _⟩ := f
        first | (go_simp; done) | (go_simp; with_reducible rfl)
      obtain ⟨W3, hmk, hg3, hb3⟩ := make_own l.length (by omega) wd
      obtain ⟨g4, c4, w4, hap, hg4, hb4⟩ := hg3.append A c l _ (BR.up (BR.up HR.out hS.bel) hb3) 40 (by simp; omega) hb3.size
      simp only [List.length_nil, Nat.zero_add, List.nil_append] at hap hg4
      have hb34 : Below wd.heap.size wd w4 := hb3.grown hb4 hb3.size (fun k e => by injection e with e; omega)
      have hS3 := hS.next hb3
      have HS4 := Lib.hid (hS.next hb34)
      have hrow : BR w4 w4.heap.size (some ⟨g4, 0, none⟩) l := hg4.row HR.out.1 hg4.lt.2
      have hc := rlay_any t.norm _ (some ⟨g4, 0, none⟩) c4 l N w4 hrow HV.out HLEN.out (HB2.out.up hb34)
      have HAP := Lib.hid hap
      have HS3 := Lib.hid hS3
      unfold tv at hc
      clear hg3 hb3 hg4 hb4 hb34 hS3 hrow hap HB2 hS HV HLEN
      refine wpAnyH_ready (rs := [2]) (by kernel_rfl) (by simp) ?_
      refine AllReadyH.cons rfl (fun K hK => ?_) AllReadyH.nil
      go_simp
      go_wp2
      refine hK.out _ _ HS3.out (fun _ => ?_)
      clear hK K HS3
      refine wpAnyH_ready (rs := [4]) (by kernel_rfl) (by simp) ?_
      refine AllReadyH.cons rfl (fun K hK => ?_) AllReadyH.nil
      refine oper_append_run _ _ _ _ rfl _ _ rfl rfl HAP.out ?_
      clear HAP hmk
      go_simp
      refine hK.out _ _ HS4.out (fun hS => ?_)
      clear hK K HS4
      obtain ⟨L, hL⟩ : ∃ L, M.putL l N (bitsT t.norm) = L := ⟨_, rfl⟩
      obtain ⟨k, hk⟩ : ∃ k, N + (bitsT t.norm).length = k := ⟨_, rfl⟩
      rw [hL, hk] at HE hc
      clear hL hk
      refine wpAnyH_ready (rs := [7]) (by kernel_rfl) (by simp) ?_
      refine AllReadyH.cons rfl (fun K hK => ?_) AllReadyH.nil
      go_simp
      go_wp2_with (go_at_call 57; refine (hc).mono ?_; rintro e w5 ⟨A5, c5, rfl, hr5, hb5⟩)
      have hS3 := hS.next hb5
      have HR5 := Lib.hid hr5
      clear hb5 hr5 hS hc
      refine hK.out _ _ hS3 (fun hS => ?_)
      clear hK K hS3
      refine wpAnyH_take (i := 8) (v := ?_) rfl (by kernel_rfl) (by kernel_rfl) (by kernel_rfl) (fun _ _ _ h => h) (Yields.yieldsIf (Or.inl ⟨by kernel_rfl, ?_⟩)) hS ?_
      rotate_left
      · first | (intro w; go_simp; done) | (intro w; go_simp; with_reducible rfl)
      refine wpAnyH_take (i := 9) (v := ?_) rfl (by kernel_rfl) (by kernel_rfl) (by kernel_rfl) (fun _ _ _ h => h) (Yields.yieldsIf (Or.inl ⟨by kernel_rfl, ?_⟩)) hS ?_
      rotate_left
      · first | (intro w; go_simp; done) | (intro w; go_simp; with_reducible rfl)
      refine wpAnyH_take (i := 10) (v := ?_) rfl (by kernel_rfl) (by kernel_rfl) (by kernel_rfl) (fun _ _ _ h => h) (Yields.yieldsIf (Or.inl ⟨by kernel_rfl, ?_⟩)) hS ?_
      rotate_left
      · first | (intro w; go_simp; done) | (intro w; go_simp; with_reducible rfl)
      refine wpAnyH_take (i := 11) (v := ?_) rfl (by kernel_rfl) (by kernel_rfl) (by kernel_rfl) (fun _ _ _ h => h) (Yields.yieldsIf (Or.inl ⟨by kernel_rfl, ?_⟩)) hS ?_
      rotate_left
      · first | (intro w; go_simp; done) | (intro w; go_simp; with_reducible rfl)
      refine wpAnyH_take (i := 12) (v := ?_) rfl (by kernel_rfl) (by kernel_rfl) (by kernel_rfl) (fun _ _ _ h => h) (Yields.yieldsIf (Or.inl ⟨by kernel_rfl, ?_⟩)) hS ?_
      rotate_left
      · first | (intro w; go_simp; done) | (intro w; go_simp; with_reducible rfl)
      refine wpAnyH_done (by kernel_rfl) ?_ _
      have HBE := Lib.hid hS.bel
      clear hS
      go_wp2
      refine bodyPost_ret (v := .tuple #[.slice A5 L.length c5, .int .i64 (k : Int), .int .i64 0]) (by simp [results, Try.f33, go_sem]) rfl ?_
      rw [HE.out]
      exact ⟨⟨A5, c5, rfl, HR5.out⟩, HBE.out⟩
end Go.Proofs.Ytkpefelakhbkhaa.I

namespace Go.Proofs.Ytkpefelakhbkhaa.I
open Go.RowKit

/-- The bits that stand for a node ahead of those of its kids. -/
def codeK (k : Bool × Nat × Int) : List Nat := if k.2.1 = 0 then bitsT (.leaf k.1) else [1]
def codeV (k : Bool × Nat × Int) : Nat := if k.2.1 = 0 then (if k.1 = true then 1 else 0) else 1
def codeN (k : Bool × Nat × Int) : Nat := if k.2.1 = 0 then 2 else 1
theorem codeK_digs (k : Bool × Nat × Int) : codeK k = M.digs (codeV k) (codeN k) ∧ codeV k < 2 ∧ (codeN k = 1 ∨ codeN k = 2) := by
  obtain ⟨o, n, d⟩ := k
  unfold codeK codeV codeN
  simp only
  by_cases h : n = 0
  · simp only [h, if_true]
    refine ⟨(digs_leaf o).symm, by split <;> omega, by simp⟩
  · simp only [h, if_false]
    exact ⟨digs_one.symm, by omega, by simp⟩
theorem one_code (o : Bool) (ts : List Tr) (t : Tr) (d : Int) (h : one o ts = some t) : bitsT t = codeK (o, ts.length, d) ++ ts.flatMap bitsT := by
  match ts, h with
  | [], h => simp [one] at h; subst h; simp [codeK]
  | [x], h => simp [one] at h
  | [x, y], h =>
    cases o with
    | true => simp [one] at h
    | false => simp [one] at h; subst h; simp [codeK, bitsT]
  | x :: y :: z :: r, h => simp [one] at h
theorem walkK_code : ∀ (f : Fo) (ts : List Tr) (d : Int), trees f = some ts → (walkK f d).flatMap codeK = ts.flatMap bitsT
  | .nil, ts, d, h => by simp [trees] at h; subst h; rfl
  | .cons o ks rest, ts, d, h => by
    simp only [trees] at h
    obtain ⟨k, hk, h⟩ := Option.bind_eq_some_iff.1 h
    obtain ⟨t, ht, h⟩ := Option.bind_eq_some_iff.1 h
    obtain ⟨r, hr, rfl⟩ := Option.map_eq_some_iff.1 h
    rw [walkK_cons, List.flatMap_append, walkK_code rest r d hr, List.flatMap_cons, one_code o k t d ht]
    unfold walkT
    rw [List.flatMap_cons, walkK_code ks k (nx d) hk, trees_len ks k hk]
theorem walkT_code {o : Bool} {ks : Fo} {t : Tr} (d : Int) (h : (trees ks).bind (one o) = some t) : (walkT o ks d).flatMap codeK = bitsT t := by
  obtain ⟨k, hk, ht⟩ := Option.bind_eq_some_iff.1 h
  unfold walkT
  rw [List.flatMap_cons, walkK_code ks k (nx d) hk, one_code o k t d ht, trees_len ks k hk]
theorem or_word1 (v x : Nat) (hv : v < 9223372036854775808) (hx : x < 2) : bits .or .u64 (IntKind.u64.wrap ((v : Int) * 2)) (x : Int) = ((v * 2 + x : Nat) : Int) := by
  have e : IntKind.u64.wrap ((v : Int) * 2) = ((2 * v : Nat) : Int) := by rw [IntKind.wrap_u64]; omega
  rw [e, u64_or_nat _ _ (by omega) (by omega), nat_join 1 _ _ (by omega) (by omega)]
  congr 1; omega
theorem or_word2 (v x : Nat) (hv : v < 4611686018427387904) (hx : x < 2) : bits .or .u64 (IntKind.u64.wrap ((v : Int) * 4)) (x : Int) = ((v * 4 + x : Nat) : Int) := by
  have e : IntKind.u64.wrap ((v : Int) * 4) = ((4 * v : Nat) : Int) := by rw [IntKind.wrap_u64]; omega
  rw [e, u64_or_nat _ _ (by omega) (by omega), nat_join 2 _ _ (by omega) (by omega)]
  congr 1; omega
/-- What was gathered: a word of so many bits. -/
def Word (v m : Nat) (bs : List Nat) : Prop := v < 2 ^ m ∧ m ≤ 64 ∧ M.digs v m = bs
theorem Word.zero : Word 0 0 [] := ⟨by decide, by decide, rfl⟩
theorem Word.next {v m : Nat} {bs : List Nat} (h : Word v m bs) (k : Bool × Nat × Int) (hm : m + codeN k ≤ 64) : Word (v * 2 ^ codeN k + codeV k) (m + codeN k) (bs ++ codeK k) := by
  obtain ⟨e1, e2, e3⟩ := codeK_digs k
  have hlt : codeV k < 2 ^ codeN k := by rcases e3 with e3 | e3 <;> rw [e3] <;> omega
  refine ⟨?_, hm, ?_⟩
  · have := h.1
    rw [Nat.pow_add]
    have h1 : v + 1 ≤ 2 ^ m := this
    have h2 := Nat.mul_le_mul_right (2 ^ codeN k) h1
    rw [Nat.add_mul] at h2
    omega
  · rw [M.digs_append v (codeV k) m (codeN k) hlt, h.2.2, e1]
theorem Word.first (k : Bool × Nat × Int) : Word (codeV k) (codeN k) (codeK k) := by
  have := Word.zero.next k (by rcases (codeK_digs k).2.2 with h | h <;> omega)
  simpa using this

set_option maxHeartbeats 1600000 in
theorem code_any (o : Bool) (A : Option Addr) (n c : Nat) (d : Int) (w : World) : Calls Try.prog 54 #[tv o A n c] w fun e w' => e = .returned (.tuple #[.int .u64 (codeV (o, n, d) : Int), .int .i64 (codeN (o, n, d) : Int)]) ∧ Below w.heap.size w w' := by
  have HX := Lib.hid ((XS.begin w).boxed (.bool o) (.slice A n c))
  simp only [List.nil_append] at HX
  have hc := pleaf_any o A n c (w.alloc (.cells #[.bool o, .slice A n c] 24))
  unfold tv at hc ⊢
  by_cases h : n = 0
  · rw [decide_eq_true h] at hc
    have HE : Hid (codeV (o, n, d) = (if o = true then 1 else 0) ∧ codeN (o, n, d) = 2) := ⟨by simp [codeV, h], by simp [codeN, h]⟩
    clear h
    go_enter Try.func54, Try.ntmps54
    go_wp2_with fail
    refine hc.mono ?_
    rintro e w1 ⟨rfl, hb1⟩
    have HX1 := Lib.hid (HX.out.next hb1)
    have f := HX1.out.at0
    simp only [List.mem_cons, List.not_mem_nil, or_false, forall_eq] at f
    obtain ⟨p0, q0, _⟩ := f
    clear hc hb1 HX
    cases o with
    | true =>
      go_wp2
      go_ret2
      exact ⟨by rw [HE.out.1, HE.out.2]; rfl, HX1.out.bel⟩
    | false =>
      go_wp2
      go_ret2
      exact ⟨by rw [HE.out.1, HE.out.2]; rfl, HX1.out.bel⟩
  · rw [decide_eq_false h] at hc
    have HE : Hid (codeV (o, n, d) = 1 ∧ codeN (o, n, d) = 1) := ⟨by simp [codeV, h], by simp [codeN, h]⟩
    clear h
    go_enter Try.func54, Try.ntmps54
    go_wp2_with fail
    refine hc.mono ?_
    rintro e w1 ⟨rfl, hb1⟩
    have HX1 := Lib.hid (HX.out.next hb1)
    clear hc hb1 HX
    go_wp2
    go_ret2
    exact ⟨by rw [HE.out.1, HE.out.2]; rfl, HX1.out.bel⟩
end Go.Proofs.Ytkpefelakhbkhaa.I
