/-
  A slice of bytes that came in.
  IdBits: the walk of the law.
  The law IdBits answers true for every input, and leaves what it was given as it was. Conditions: none beside the form's own.
-/
import Derived.Test.YtkpefelakhbkhaaIRLay
import Derived.Test.YtkpefelakhbkhaaIGate
import Derived.OpenShut
import Derived.Test.YtkpefelakhbkhaaZLay
import Derived.Test.YtkpefelakhbkhaaZTake
import Derived.Test.YtkpefelakhbkhaaIShown
namespace Go.Proofs.Ytkpefelakhbkhaa.I
open Go.ChangeShapes Go.WideShapes Go.ChangeAt Go.RowKit

theorem openB {H : Type} {enc : TypeId × Value → H} {W : World} {a : Option Addr} {len cap : Nat} {d : DataW H} {p : List MemPlace} (h : DataW.Trod enc Try.prog W 0 (fun _ => true) true 40 (.slice a len cap) d p) :
    ∃ l : List Nat, len = l.length ∧ BR W W.heap.size a l ∧ l.length ≤ cap ∧ (l.length = 0 ∨ ∃ elems spare, d = .slice elems spare ∧ l.length ≤ elems.length + spare.length) := by
  obtain ⟨fuel, hf⟩ := h
  rcases open_ints Try.underlying40 Try.underlying5 (by kernel_rfl) hf with ⟨hcs, _⟩ | ⟨x, l, c, zs, hcs, _, hl, hm, hz, hx, hcell, hwz⟩
  · simp [Value.cells] at hcs
    obtain ⟨rfl, rfl, rfl⟩ := hcs
    exact ⟨[], rfl, Go.Proofs.Ytkpefelakhbkhaa.Row.none_ _ _ _, by simp, .inl rfl⟩
  · simp [Value.cells] at hcs
    obtain ⟨rfl, rfl, rfl⟩ := hcs
    simp only [if_true] at hz
    simp only [Prod.mk.injEq] at hx
    have hlen : len = ((zs.take len).map Int.toNat).length := by simp; omega
    have hby : ∀ z ∈ zs, 0 ≤ z ∧ z < 256 := by
      intro z hzm
      have := hwz z hzm
      have := bounds_u8 this
      omega
    refine ⟨(zs.take len).map Int.toNat, hlen, ⟨?_, fun hpos => ?_⟩, by omega, ?_⟩
    · intro y hy
      obtain ⟨z, hz1, rfl⟩ := List.mem_map.1 hy
      have := hby z (List.mem_of_mem_take hz1)
      omega
    · have hlp : 0 < len := by omega
      have hc0 := hcell 0 (by omega)
      obtain ⟨b, off, spot⟩ := x
      have hspot : spot = none := by simpa [Addr.add] using World.cell?_spot hc0
      subst hspot
      have hc0' : W.cell? ⟨b, off, none⟩ = some (.int .u8 (zs.getD 0 0)) := by simpa [Addr.add] using hc0
      refine ⟨b, off, rfl, World.block_lt_of_cell? W _ hc0', fun j hj => ?_⟩
      have hj2 : j < len := by omega
      have hjz : j < zs.length := by omega
      have hadd : (⟨b, off, none⟩ : Addr).add j = ⟨b, off + j, none⟩ := by
        unfold Addr.add; split
        · rename_i h; subst h; rfl
        · rfl
      have := hcell j hjz
      rw [hadd] at this
      rw [this]
      have hb := hby _ (List.getElem_mem hjz)
      simp [hj2, hjz]
      omega
    · refine .inr ⟨_, _, hx.1, ?_⟩
      simp [lits]
end Go.Proofs.Ytkpefelakhbkhaa.I

namespace Go.Proofs.Ytkpefelakhbkhaa.I
open Go.RowKit

/-- What Lay answers, as bytes and two numbers. -/
def laidR : Option (List Nat × Nat) → List Nat × Int × Int
  | some q => (q.1, (q.2 : Int), 0)
  | none => ([], 0, 2)
theorem AnsB.form {r : Option (List Nat × Nat)} {w w' : World} {e : Ending} (h : AnsB r w e w') : ∃ A c, e = .returned (.tuple #[.slice A (laidR r).1.length c, .int .i64 (laidR r).2.1, .int .i64 (laidR r).2.2]) ∧ BR w' w'.heap.size A (laidR r).1 ∧ Below w.heap.size w w' := by
  cases r with
  | none => exact ⟨none, 0, h.1, Go.Proofs.Ytkpefelakhbkhaa.Row.none_ _ _ _, h.2⟩
  | some q =>
    obtain ⟨⟨A, c, e, hr⟩, hb⟩ := h
    exact ⟨A, c, e, hr, hb⟩
set_option maxRecDepth 100000 in
set_option maxHeartbeats 3200000 in
theorem bits_walk (A : Option Addr) (c : Nat) (l : List Nat) (n : Int) (T : Option Tr) (v : Value) (a : Int) (w : World) (hr : BR w w.heap.size A l) (hl : l.length ≤ 140737488351232) (_lc : l.length ≤ c) (bn : -9223372036854775808 ≤ n ∧ n ≤ 9223372036854775807) (hv : Arg w T v) (_ba : -9223372036854775808 ≤ a ∧ a ≤ 9223372036854775807) :
    Calls Try.prog 7 #[.slice A l.length c, .int .i64 n, v, .int .i64 a] w fun e w' => e = .returned (.bool true) ∧ Below w.heap.size w w' := by
  obtain ⟨o, B, m, d, rfl⟩ := hv.form
  have HX := Lib.hid ((XS.begin w).boxed (.bool o) (.slice B m d))
  simp only [List.nil_append] at HX
  have HV := Lib.hid hv
  have HR := Lib.hid hr
  have HL := Lib.hid hl
  have HN : Hid (-9223372036854775808 ≤ n ∧ n < 9223372036854775808) := ⟨by omega, by omega⟩
  obtain ⟨q, hq⟩ : ∃ q, laidR (layO l n T) = q := ⟨_, rfl⟩
  obtain ⟨L, z1, z2⟩ := q
  have HQ := Lib.hid hq
  obtain ⟨q, hp⟩ : ∃ q, takeR l n a = q := ⟨_, rfl⟩
  obtain ⟨t3, y1, y2⟩ := q
  have HP := Lib.hid hp
  clear hv hr hl bn _ba _lc hq hp
  unfold tv
  go_enter Try.func7, Try.ntmps7
  go_wp2_with fail
  refine (shown_any _).mono ?_
  rintro e w1 ⟨rfl, hb1⟩
  have HX1 := Lib.hid (HX.out.next hb1)
  clear hb1 HX
  have f := HX1.out.at0
  simp only [List.mem_cons, List.not_mem_nil, or_false, forall_eq] at f
  obtain ⟨p0, q0, _⟩ := f
  have hc := lay_tree A c l n T _ w1 (BR.up HR.out HX1.out.bel) HL.out HN.out.1 HN.out.2 (HV.out.up HX1.out.bel)
  unfold tv at hc
  go_wp2_with fail
  refine hc.mono ?_
  intro e w2 he
  obtain ⟨A2, c2, rfl, h2, hb2⟩ := he.form
  rw [HQ.out] at h2 ⊢
  simp only at h2 ⊢
  have HX2 := Lib.hid (HX1.out.next hb2)
  have H2 := Lib.hid h2
  clear hb2 HX1 hc p0 q0 he h2
  have f := HX2.out.at0
  simp only [List.mem_cons, List.not_mem_nil, or_false, forall_eq] at f
  obtain ⟨p0, q0, _⟩ := f
  have hc := rLay_tree A c l n T _ w2 (BR.up HR.out HX2.out.bel) HL.out HN.out.1 HN.out.2 (HV.out.up HX2.out.bel)
  unfold tv at hc
  go_wp2_with fail
  refine hc.mono ?_
  intro e w3 he
  obtain ⟨A3, c3, rfl, h3, hb3⟩ := he.form
  rw [HQ.out] at h3 ⊢
  simp only at h3 ⊢
  have HX3 := Lib.hid (HX2.out.next hb3)
  have G2 := Lib.hid (BR.up H2.out hb3)
  have G3 := Lib.hid h3
  clear hb3 HX2 hc p0 q0 he h3 H2
  have hc := take_tree A c l n a w3 (BR.up HR.out HX3.out.bel) (by have := HL.out; omega) HN.out.1 HN.out.2
  rw [HP.out] at hc
  go_wp2_with fail
  refine hc.mono ?_
  rintro e w4 ⟨v4, rfl, h4, hb4⟩
  obtain ⟨o4, A4, n4, c4, rfl⟩ := h4.form
  have hd4 : Below w4.heap.size w4 (w4.alloc (.cells #[.bool o4, .slice A4 n4 c4] 24)) := (Below.refl _ w4).alloc (Nat.le_refl _) _
  have HX4 := Lib.hid ((HX3.out.next hb4).boxed (.bool o4) (.slice A4 n4 c4))
  simp only [List.nil_append, List.cons_append] at HX4
  have F2 := Lib.hid (BR.up (BR.up G2.out hb4) hd4)
  have F3 := Lib.hid (BR.up (BR.up G3.out hb4) hd4)
  have T4 := Lib.hid (h4.up hd4)
  simp only at T4
  clear hb4 hd4 h4 G2 G3 HX3 hc
  unfold tv
  have hc := rTake_tree A c l n a (w4.alloc (.cells #[.bool o4, .slice A4 n4 c4] 24)) (BR.up HR.out HX4.out.bel) (by have := HL.out; omega) HN.out.1 HN.out.2
  rw [HP.out] at hc
  go_wp2_with fail
  refine hc.mono ?_
  rintro e w5 ⟨v5, rfl, h5, hb5⟩
  obtain ⟨o5, A5, n5, c5, rfl⟩ := h5.form
  have hd5 : Below w5.heap.size w5 (w5.alloc (.cells #[.bool o5, .slice A5 n5 c5] 24)) := (Below.refl _ w5).alloc (Nat.le_refl _) _
  have HX5 := Lib.hid ((HX4.out.next hb5).boxed (.bool o5) (.slice A5 n5 c5))
  simp only [List.nil_append, List.cons_append] at HX5
  have E2 := BR.up (BR.up F2.out hb5) hd5
  have E3 := BR.up (BR.up F3.out hb5) hd5
  have T5 := h5.up hd5
  have S4 := (T4.out.up hb5).up hd5
  simp only at T5
  have hce := equal_any _ _ _ _ _ S4 T5
  rw [eqT_refl] at hce
  have hs2 := Go.Proofs.Ytkpefelakhbkhaa.run_str A2 c2 L _ _ E2
  have hs3 := Go.Proofs.Ytkpefelakhbkhaa.run_str A3 c3 L _ _ E3
  unfold tv at hce ⊢
  have f := HX5.out.at0
  simp only [List.mem_cons, List.not_mem_nil, or_false, forall_eq_or_imp, forall_eq] at f
  obtain ⟨⟨p0, q0, _⟩, ⟨p1, q1, _⟩, p2, q2, _⟩ := f
  obtain ⟨S, hS⟩ : ∃ S, Go.Proofs.Ytkpefelakhbkhaa.strB L = S := ⟨_, rfl⟩
  rw [hS] at hs2 hs3
  have hSS : (S.toList == S.toList) = true := by simp
  clear hb5 hd5 h5 F2 F3 HX4 hc T4 E2 E3 T5 S4 hS
  go_wp2_with fail
  refine hce.mono ?_
  rintro e w6 ⟨rfl, hb6⟩
  have HX6 := Lib.hid (HX5.out.next hb6)
  clear hb6 HX5 p0 q0 p1 q1 p2 q2 hce hs2 hs3
  go_wp2
  go_ret
  exact ⟨ret_bool (by simp), HX6.out.bel⟩
end Go.Proofs.Ytkpefelakhbkhaa.I

namespace Go.Proofs.Ytkpefelakhbkhaa.idBits
open Go.ChangeShapes Go.WideShapes Go.ChangeAt Go.RowKit Go.Proofs.Ytkpefelakhbkhaa.I
set_option linter.unusedVariables false

set_option maxRecDepth 100000 in
theorem lifted (os : Os) (started : os.Started) (H : Type) (enc : TypeId × Value → H) :
    ReturnsInHanded {} Try.checked os 7 .any (Rows.idBitsSpec.pre6 enc Try.prog Try.f7 Rows.idBitsRow.domain false) (Rows.idBitsSpec.post enc Try.prog Try.f7 false true false false) := by
  refine returnsInHanded_of_change_sized (C := Try.checked) own started (by kernel_rfl) Try.func7
    (ChangeSpec.witness6 (enc := enc) (C := Try.checked) false ⟨#[], #[.slice none 0 0, .int .i64 0, .agg #[.bool false, .slice none 0 0], .int .i64 0], []⟩ 8 (by kernel_rfl) (by kernel_rfl) (by kernel_rfl) (by kernel_rfl)) ?_
  intro W base args ds gs before hval0 hW hcnd hsz0 _
  have hval : ∀ (j : Nat) t v, Try.f7.params[j]? = some t → args[j]? = some v → Value.okWide Try.prog W .any base t v := hval0
  have hsz : (DataW.weightsEach Try.prog (Try.f7.params.toList ++ Rows.idBitsSpec.plain.varTypes Try.prog) (ds ++ gs)).all (· ≤ reachBytes) = true := hsz0
  have hW' := hW
  obtain ⟨p, q, hA0, hV, rfl, hfz, hnd⟩ := hW
  have hA : DataW.TrodAll enc Try.prog W 0 (fun _ => true) true Try.f7.params.toList args.toList ds p := hA0
  rw [Try.params7] at hA hval hsz
  obtain ⟨v0, vs0, d0, ds0, p0, q0, hargs, rfl, rfl, h0, r0⟩ := trodAll_cons hA
  obtain ⟨v1, vs1, d1, ds1, p1, q1, rfl, rfl, rfl, h1, r1⟩ := trodAll_cons r0
  obtain ⟨v2, vs2, d2, ds2, p2, q2, rfl, rfl, rfl, h2, r2⟩ := trodAll_cons r1
  obtain ⟨v3, vs3, d3, ds3, p3, q3, rfl, rfl, rfl, h3, r3⟩ := trodAll_cons r2
  obtain ⟨rfl, rfl, rfl⟩ := trodAll_nil r3
  obtain rfl : args = #[v0, v1, v2, v3] := by cases args; simp_all
  obtain ⟨rfl, rfl⟩ := trodVars_none hV
  obtain ⟨a0, len0, cap0, rfl⟩ := okWide_slice Try.underlying40 (hval 0 40 v0 rfl rfl)
  have k0 := h0
  have lt0 : ∀ x ∈ p0, x.block < W.heap.size := by obtain ⟨m, hm⟩ := k0; exact DataW.trod_lt m _ _ _ hm
  obtain ⟨l0, rfl, row0, lc0, hle0⟩ := openB h0
  have reach0 : l0.length ≤ 140737488351232 := by
    rcases hle0 with h | ⟨elems, spare, h, hle⟩
    · omega
    · have := sized_slice hsz (j := 0) (t := 40) (e := 5) rfl (by rw [h]; rfl) Try.underlying40
      rw [bytes5] at this
      simp only [reachBytes] at this
      omega
  obtain ⟨a1, rfl, rfl, rfl, w1⟩ := open_int Try.underlying3 (hval 1 3 v1 rfl rfl) h1
  have b1 := bounds_i64 w1
  have k2 := h2
  have lt2 : ∀ x ∈ p2, x.block < W.heap.size := by obtain ⟨m, hm⟩ := k2; exact DataW.trod_lt m _ _ _ hm
  have arg2 := argI (hval 2 24 v2 rfl rfl) h2
  obtain ⟨T2, arg2⟩ := arg2
  obtain ⟨a3, rfl, rfl, rfl, w3⟩ := open_int Try.underlying3 (hval 3 3 v3 rfl rfl) h3
  have b3 := bounds_i64 w3
  clear hA0 hval0 hsz hsz0
  refine (bits_walk a0 cap0 l0 a1 T2 v2 a3 W row0 reach0 lc0 b1 arg2 b3).mono fun e W' ⟨he, bel⟩ => ?_
  subst he
  exact ⟨_, rfl, _, _, _, [], _, [], hW', trodAll_mk1 (shut_bool Try.underlying4 _), (trodAll_cons_mk (Below.trod laidOut (by kernel_rfl) (of_decide_eq_true (by kernel_rfl)) k0 bel lt0) (trodAll_cons_mk (shut_int Try.underlying3 w1) (trodAll_cons_mk (Below.trod laidOut (by kernel_rfl) (of_decide_eq_true (by kernel_rfl)) k2 bel lt2) (trodAll_cons_mk (shut_int Try.underlying3 w3) trodAll_mk0)))), rfl, bel.frame _, fun h => by cases h⟩

theorem over : Rows.idBitsRow.holds Try.pinned (OpenSpec.ofChange Rows.idBitsSpec) :=
  OpenClaim.holds_of_wide 7 Try.f7 rfl rfl rfl rfl rfl rfl rfl ⟨rfl, rfl, rfl, rfl, rfl⟩ rfl rfl rfl rfl rfl (by kernel_rfl) Try.func7 (by kernel_rfl)
    (of_decide_eq_true (by kernel_rfl)) (by unfold Func.isWrapper; first | (rw [if_pos (by decide +kernel)]; kernel_rfl) | (rw [if_neg (by decide +kernel)]; exact ⟨rfl, rfl⟩))
    (fun os started H enc _ => lifted os started H enc)

theorem proved : Rows.IdBitsSaid := over
#print axioms proved
end Go.Proofs.Ytkpefelakhbkhaa.idBits
