/-
  EventBack: the walk of the law.
  The law EventBack answers true for every input, and leaves what it was given as it was; the tables that its library reads are tied to the program's own text. Conditions: none beside the form's own.
-/
import Derived.Test.YtflghlmikpfnpaaDoorEThree
import Derived.Test.YtflghlmikpfnpaaDoorYNum
import Derived.Test.YtflghlmikpfnpaaDoorZLay
import Derived.Test.YtflghlmikpfnpaaDoorYTk
import Derived.Test.YtflghlmikpfnpaaDoorEGate
namespace Go.Proofs.YtflghlmikpfnpaaDoor.E
open Go.RowKit

def parseA : Option Tr → Tr × Int
  | some t => (t, 0)
  | none => (.leaf 0, 50)
theorem ParseR.ans {r : Option Tr} {w w' : World} {e : Ending} (h : ParseR r w e w') : Ans (parseA r) w e w' := by
  obtain ⟨hb, ⟨t, v, rfl, rfl, hin⟩ | ⟨rfl, rfl⟩⟩ := h
  · exact ⟨v, rfl, hin, hb⟩
  · exact ⟨_, rfl, ⟨none, 0, rfl⟩, hb⟩
theorem parse_ans (s : ByteArray) (hs : s.size ≤ 140737488355328) (w : World) : Calls Tryd.prog 27 #[.string s] w (Ans (parseA (parse (ul s))) w) := (parse_any s hs w).mono fun _ _ h => h.ans
theorem back_show {s : ByteArray} {u : Tr} (h : parseA (parse (ul s)) = (u, 0)) : showR (fit u) = .tuple #[.string s, .int .i64 0] := by
  cases hp : parse (ul s) with
  | none => rw [hp] at h; simp [parseA] at h
  | some t =>
    rw [hp] at h
    simp only [parseA, Prod.mk.injEq, and_true] at h
    subst h
    obtain ⟨h1, h2, h3⟩ := (parse_iff _ _).1 hp
    rw [fit_of h3]
    show Value.tuple #[.string (strU (txt t.norm)), .int .i64 0] = _
    rw [norm_nf h2, ← h1, ul_str]
theorem back_parse {t : Tr} (h : okT t = true) : parse (txt t.norm) = some t.norm := (parse_iff _ _).2 ⟨rfl, nf_norm t, okT_norm h⟩

set_option maxRecDepth 100000 in
set_option maxHeartbeats 6400000 in
theorem back_walk (TA : Option Tr) (a : Value) (s : ByteArray) (w : World) (htab : Tab w) (ha : Arg w TA a) (hs : s.size ≤ 140737488351232) : Calls Tryd.prog 9 #[a, .string s] w fun e w' => e = .returned (.bool true) ∧ Below w.heap.size w w' := by
  obtain ⟨oa, Aa, na, ca, rfl⟩ := ha.form
  have HA := Lib.hid ha
  have HTB := Lib.hid htab
  have HX0 := Lib.hid ((XS.begin w).boxed (.int .i64 oa) (.slice Aa na ca) 24)
  simp only [List.nil_append] at HX0
  clear htab ha
  unfold tv
  go_enter Tryd.func9, Tryd.ntmps9
  go_wp2_with fail
  refine (shown_any _ (HTB.out.up HX0.out.bel)).mono ?_
  rintro e w1 ⟨rfl, hb1⟩
  have HX1 := Lib.hid (HX0.out.next hb1)
  clear hb1 HX0
  have f := HX1.out.at0
  simp only [List.mem_cons, List.not_mem_nil, or_false, forall_eq_or_imp, forall_eq] at f
  obtain ⟨p0, p1⟩ := f
  have hcall := parse_ans s (by omega) w1
  obtain ⟨ru, EU0⟩ : ∃ r, parseA (parse (ul s)) = r := ⟨_, rfl⟩
  rw [EU0] at hcall
  obtain ⟨tu, zu⟩ := ru
  have EU := Lib.hid EU0
  clear EU0
  try unfold tv at hcall
  go_wp2_with fail
  refine hcall.mono ?_
  rintro e w2 ⟨vu, rfl, hTu, hb2⟩
  obtain ⟨Au, nu, cu, rfl⟩ := hTu.form
  simp only at hTu
  obtain ⟨ou, hou⟩ : ∃ o, tu.N = o := ⟨_, rfl⟩
  rw [hou] at hTu ⊢
  clear hou
  have hXX := HX1.out.next hb2
  have HX2 := Lib.hid (hXX.boxed (.int .i64 ou) (.slice Au nu cu) 24)
  simp only [List.nil_append, List.cons_append] at HX2
  have hbx : Below w2.heap.size w2 (w2.alloc (.cells #[.int .i64 ou, .slice Au nu cu] 24)) := (Below.refl _ w2).alloc (Nat.le_refl _) _
  have hby : Below w1.heap.size w1 (w2.alloc (.cells #[.int .i64 ou, .slice Au nu cu] 24)) := hb2.trans (hbx.mono hb2.size)
  have Tu2 := Lib.hid (hTu.old.up hbx)
  clear hcall hXX hbx hby hb2 hTu HX1 p0 p1
  unfold tv
  have f := HX2.out.at0
  simp only [List.mem_cons, List.not_mem_nil, or_false, forall_eq_or_imp, forall_eq] at f
  obtain ⟨p0, p1, p2, p3⟩ := f
  by_cases hzu : zu = 0
  · subst hzu
    have HBK := Lib.hid (back_show EU.out)
    have hSS : (s.toList == s.toList) = true := by simp
    clear EU
    have hcall := show_arg (arg_of Tu2.out) (HTB.out.up HX2.out.bel)
    rw [HBK.out] at hcall
    try unfold tv at hcall
    go_wp2_with fail
    refine hcall.mono ?_
    rintro e w3 ⟨rfl, hb3⟩
    have HX3 := Lib.hid (HX2.out.next hb3)
    have Tu3 := Lib.hid (Tu2.out.up hb3)
    clear Tu2
    clear hcall hb3 HX2 p0 p1 p2 p3
    have f := HX3.out.at0
    simp only [List.mem_cons, List.not_mem_nil, or_false, forall_eq_or_imp, forall_eq] at f
    obtain ⟨p0, p1, p2, p3⟩ := f
    have hcall := norm_arg (HA.out.up HX3.out.bel)
    obtain ⟨rx, EX0⟩ : ∃ r, normR TA = r := ⟨_, rfl⟩
    rw [EX0] at hcall
    obtain ⟨tx, zx⟩ := rx
    have EX := Lib.hid EX0
    clear EX0
    try unfold tv at hcall
    go_wp2_with fail
    refine hcall.mono ?_
    rintro e w4 ⟨vx, rfl, hTx, hb4⟩
    obtain ⟨Ax, nx, cx, rfl⟩ := hTx.form
    simp only at hTx
    obtain ⟨ox, hox⟩ : ∃ o, tx.N = o := ⟨_, rfl⟩
    rw [hox] at hTx ⊢
    clear hox
    have hXX := HX3.out.next hb4
    have HX4 := Lib.hid (hXX.boxed (.int .i64 ox) (.slice Ax nx cx) 24)
    simp only [List.nil_append, List.cons_append] at HX4
    have hbx : Below w4.heap.size w4 (w4.alloc (.cells #[.int .i64 ox, .slice Ax nx cx] 24)) := (Below.refl _ w4).alloc (Nat.le_refl _) _
    have hby : Below w3.heap.size w3 (w4.alloc (.cells #[.int .i64 ox, .slice Ax nx cx] 24)) := hb4.trans (hbx.mono hb4.size)
    have Tu4 := Lib.hid (Tu3.out.up hby)
    clear Tu3
    have Tx4 := Lib.hid (hTx.old.up hbx)
    clear hcall hXX hbx hby hb4 hTx HX3 p0 p1 p2 p3
    unfold tv
    have f := HX4.out.at0
    simp only [List.mem_cons, List.not_mem_nil, or_false, forall_eq_or_imp, forall_eq] at f
    obtain ⟨p0, p1, p2, p3, p4, p5⟩ := f
    cases TA with
    | none =>
      have hzx : zx = 2 := by have := EX.out; simp only [normR, Prod.mk.injEq] at this; exact this.2.symm
      subst hzx
      clear EX
      go_wp2
      go_ret
      exact ⟨rfl, HX4.out.bel⟩
    | some t0 =>
      have hzx : zx = 0 := by have := EX.out; simp only [normR, Prod.mk.injEq] at this; exact this.2.symm
      have htx : tx = t0.norm := by have := EX.out; simp only [normR, Prod.mk.injEq] at this; exact this.1.symm
      subst hzx
      subst htx
      clear EX
      have HOK : Hid (okT t0 = true) := HA.out.inT.2
      have hokn := (okT_iff _).1 (okT_norm HOK.out)
      have HOKN := Lib.hid hokn
      have hUs : (strU (txt t0.norm)).size ≤ 100000 := by
        have := txt_len t0.norm 4611686018427387904 hokn.2.1 (by omega)
        rw [strU_size]; omega
      have HSH : Hid (showR (some t0) = .tuple #[.string (strU (txt t0.norm)), .int .i64 0]) := rfl
      have HPU : Hid (parseA (parse (ul (strU (txt t0.norm)))) = (t0.norm, 0)) := by show _ = _; rw [ul_of, back_parse HOK.out]; rfl
      obtain ⟨U, hU⟩ : ∃ U, strU (txt t0.norm) = U := ⟨_, rfl⟩
      rw [hU] at hUs HSH HPU
      clear hU hokn
      have hcall := show_arg (HA.out.up HX4.out.bel) (HTB.out.up HX4.out.bel)
      rw [HSH.out] at hcall
      try unfold tv at hcall
      go_wp2_with fail
      refine hcall.mono ?_
      rintro e w5 ⟨rfl, hb5⟩
      have HX5 := Lib.hid (HX4.out.next hb5)
      have Tu5 := Lib.hid (Tu4.out.up hb5)
      clear Tu4
      have Tx5 := Lib.hid (Tx4.out.up hb5)
      clear Tx4
      clear hcall hb5 HX4 p0 p1 p2 p3 p4 p5
      have f := HX5.out.at0
      simp only [List.mem_cons, List.not_mem_nil, or_false, forall_eq_or_imp, forall_eq] at f
      obtain ⟨p0, p1, p2, p3, p4, p5⟩ := f
      have hcall := parse_ans U (by omega) w5
      obtain ⟨ry, EY0⟩ : ∃ r, parseA (parse (ul U)) = r := ⟨_, rfl⟩
      rw [EY0] at hcall
      obtain ⟨ty, zy⟩ := ry
      have EY := Lib.hid EY0
      clear EY0
      try unfold tv at hcall
      go_wp2_with fail
      refine hcall.mono ?_
      rintro e w6 ⟨vy, rfl, hTy, hb6⟩
      obtain ⟨Ay, ny, cy, rfl⟩ := hTy.form
      simp only at hTy
      obtain ⟨oy, hoy⟩ : ∃ o, ty.N = o := ⟨_, rfl⟩
      rw [hoy] at hTy ⊢
      clear hoy
      have hXX := HX5.out.next hb6
      have HX6 := Lib.hid (hXX.boxed (.int .i64 oy) (.slice Ay ny cy) 24)
      simp only [List.nil_append, List.cons_append] at HX6
      have hbx : Below w6.heap.size w6 (w6.alloc (.cells #[.int .i64 oy, .slice Ay ny cy] 24)) := (Below.refl _ w6).alloc (Nat.le_refl _) _
      have hby : Below w5.heap.size w5 (w6.alloc (.cells #[.int .i64 oy, .slice Ay ny cy] 24)) := hb6.trans (hbx.mono hb6.size)
      have Tu6 := Lib.hid (Tu5.out.up hby)
      clear Tu5
      have Tx6 := Lib.hid (Tx5.out.up hby)
      clear Tx5
      have Ty6 := Lib.hid (hTy.old.up hbx)
      clear hcall hXX hbx hby hb6 hTy HX5 p0 p1 p2 p3 p4 p5
      unfold tv
      have f := HX6.out.at0
      simp only [List.mem_cons, List.not_mem_nil, or_false, forall_eq_or_imp, forall_eq] at f
      obtain ⟨p0, p1, p2, p3, p4, p5, p6, p7⟩ := f
      have hyy : ty = t0.norm ∧ zy = 0 := by have := EY.out; rw [HPU.out] at this; simp only [Prod.mk.injEq] at this; exact ⟨this.1.symm, this.2.symm⟩
      obtain ⟨rfl, rfl⟩ := hyy
      clear EY HPU HSH
      have hlay := lay_tree none 0 [] 0 (some t0) _ (w6.alloc (.cells #[.int .i64 oy, .slice Ay ny cy] 24)) (Row.none_ _ _ _) (by simp) (by simp) (by omega) (by omega) (HA.out.up HX6.out.bel)
      by_cases hsm : smallT t0.norm = true
      · have hlo : layO [] 0 (some t0) = (M.putL [] 0 (bitsE t0.norm), (bitsE t0.norm).length, 0) := by
          unfold layO
          rw [if_pos (show M.rightB [] (0 : Int) = true from M.rightB_nat (l := []) (n := 0) ⟨rfl, by simp⟩)]
          simp only
          rw [if_pos hsm]
          simp
        have htl := take_laid t0 HOK.out hsm
        have htk : takeR (M.putL [] 0 (bitsE t0.norm)) (((bitsE t0.norm).length : Nat) : Int) 0 = (t0.norm, (((bitsE t0.norm).length : Nat) : Int), 0) := by
          unfold takeR
          rw [if_pos ⟨htl.1, by omega, by omega⟩]
          simp only [Int.toNat_natCast, show (0 : Int).toNat = 0 from rfl]
          rw [htl.2]
        have hLL : (M.putL [] 0 (bitsE t0.norm)).length ≤ 1000000 := by
          have h1 := put_len (l := []) (n := 0) ⟨rfl, by simp⟩ (bitsE t0.norm)
          have h2 := bitsE_len t0.norm 4611686018427387904 HOKN.out.2.1 (by omega)
          have h3 := HOKN.out.2.2
          simp only [List.length_nil] at h1
          omega
        have hKK : (bitsE t0.norm).length ≤ 1000000 := by
          have h2 := bitsE_len t0.norm 4611686018427387904 HOKN.out.2.1 (by omega)
          have h3 := HOKN.out.2.2
          omega
        obtain ⟨LL, hLe⟩ : ∃ L, M.putL [] 0 (bitsE t0.norm) = L := ⟨_, rfl⟩
        obtain ⟨KK, hKe⟩ : ∃ K, (bitsE t0.norm).length = K := ⟨_, rfl⟩
        rw [hLe, hKe] at hlo htk
        rw [hLe] at hLL
        rw [hKe] at hKK
        rw [hlo] at hlay
        have HTK := Lib.hid htk
        clear hlo htl htk hLe hKe
        unfold tv at hlay
        simp only [List.length_nil] at hlay
        go_wp2_with fail
        refine hlay.mono ?_
        rintro e w7 ⟨Ab, cb, rfl, hrb, hb7⟩
        have HX7 := Lib.hid (HX6.out.next hb7)
        have HRB := Lib.hid hrb
        have Tu7 := Lib.hid (Tu6.out.up hb7)
        clear Tu6
        have Tx7 := Lib.hid (Tx6.out.up hb7)
        clear Tx6
        have Ty7 := Lib.hid (Ty6.out.up hb7)
        clear Ty6
        clear hlay hb7 hrb HX6 p0 p1 p2 p3 p4 p5 p6 p7
        have f := HX7.out.at0
        simp only [List.mem_cons, List.not_mem_nil, or_false, forall_eq_or_imp, forall_eq] at f
        obtain ⟨p0, p1, p2, p3, p4, p5, p6, p7⟩ := f
        have hcall := takeP_any Ab cb LL (KK : Int) 0 w7 HRB.out (by omega) (by omega) (by omega)
        rw [HTK.out] at hcall
        clear HTK HRB
        go_wp2_with fail
        refine hcall.mono ?_
        rintro e w8 ⟨vz, rfl, hTz, hb8⟩
        obtain ⟨Az, nz, cz, rfl⟩ := hTz.form
        simp only at hTz
        obtain ⟨oz, hoz⟩ : ∃ o, t0.norm.N = o := ⟨_, rfl⟩
        rw [hoz] at hTz ⊢
        clear hoz
        have hXX := HX7.out.next hb8
        have HX8 := Lib.hid (hXX.boxed (.int .i64 oz) (.slice Az nz cz) 24)
        simp only [List.nil_append, List.cons_append] at HX8
        have hbx : Below w8.heap.size w8 (w8.alloc (.cells #[.int .i64 oz, .slice Az nz cz] 24)) := (Below.refl _ w8).alloc (Nat.le_refl _) _
        have hby : Below w7.heap.size w7 (w8.alloc (.cells #[.int .i64 oz, .slice Az nz cz] 24)) := hb8.trans (hbx.mono hb8.size)
        have Tu8 := Lib.hid (Tu7.out.up hby)
        clear Tu7
        have Tx8 := Lib.hid (Tx7.out.up hby)
        clear Tx7
        have Ty8 := Lib.hid (Ty7.out.up hby)
        clear Ty7
        have Tz8 := Lib.hid (hTz.old.up hbx)
        clear hcall hXX hbx hby hb8 hTz HX7 p0 p1 p2 p3 p4 p5 p6 p7
        unfold tv
        have f := HX8.out.at0
        simp only [List.mem_cons, List.not_mem_nil, or_false, forall_eq_or_imp, forall_eq] at f
        obtain ⟨p0, p1, p2, p3, p4, p5, p6, p7, p8, p9⟩ := f
        have hcall := equal_any t0.norm t0.norm _ _ _ _ _ Tx8.out Tz8.out
        rw [eqT_refl] at hcall
        try unfold tv at hcall
        go_wp2_with fail
        refine hcall.mono ?_
        rintro e w9 ⟨rfl, hb9⟩
        have HX9 := Lib.hid (HX8.out.next hb9)
        have Tu9 := Lib.hid (Tu8.out.up hb9)
        clear Tu8
        have Tx9 := Lib.hid (Tx8.out.up hb9)
        clear Tx8
        have Ty9 := Lib.hid (Ty8.out.up hb9)
        clear Ty8
        have Tz9 := Lib.hid (Tz8.out.up hb9)
        clear Tz8
        clear hcall hb9 HX8 p0 p1 p2 p3 p4 p5 p6 p7 p8 p9
        have f := HX9.out.at0
        simp only [List.mem_cons, List.not_mem_nil, or_false, forall_eq_or_imp, forall_eq] at f
        obtain ⟨p0, p1, p2, p3, p4, p5, p6, p7, p8, p9⟩ := f
        have HEN : Hid (endsR (some t0) = .tuple #[.int .i64 (low t0), .int .i64 (high t0), .int .i64 0]) := rfl
        obtain ⟨lo0, hlo0⟩ : ∃ z, low t0 = z := ⟨_, rfl⟩
        rw [hlo0] at HEN
        clear hlo0
        obtain ⟨hi0, hhi0⟩ : ∃ z, high t0 = z := ⟨_, rfl⟩
        rw [hhi0] at HEN
        clear hhi0
        have hcall := ends_arg (HA.out.up HX9.out.bel)
        rw [HEN.out] at hcall
        try unfold tv at hcall
        go_wp2_with fail
        refine hcall.mono ?_
        rintro e w10 ⟨rfl, hb10⟩
        have HX10 := Lib.hid (HX9.out.next hb10)
        have Tu10 := Lib.hid (Tu9.out.up hb10)
        clear Tu9
        have Tx10 := Lib.hid (Tx9.out.up hb10)
        clear Tx9
        have Ty10 := Lib.hid (Ty9.out.up hb10)
        clear Ty9
        have Tz10 := Lib.hid (Tz9.out.up hb10)
        clear Tz9
        clear hcall hb10 HX9 p0 p1 p2 p3 p4 p5 p6 p7 p8 p9
        have f := HX10.out.at0
        simp only [List.mem_cons, List.not_mem_nil, or_false, forall_eq_or_imp, forall_eq] at f
        obtain ⟨p0, p1, p2, p3, p4, p5, p6, p7, p8, p9⟩ := f
        have hcall := equal_any t0.norm t0.norm _ _ _ _ _ Tx10.out Ty10.out
        rw [eqT_refl] at hcall
        try unfold tv at hcall
        go_wp2_with fail
        refine hcall.mono ?_
        rintro e w11 ⟨rfl, hb11⟩
        have HX11 := Lib.hid (HX10.out.next hb11)
        have Tu11 := Lib.hid (Tu10.out.up hb11)
        clear Tu10
        have Tx11 := Lib.hid (Tx10.out.up hb11)
        clear Tx10
        have Ty11 := Lib.hid (Ty10.out.up hb11)
        clear Ty10
        have Tz11 := Lib.hid (Tz10.out.up hb11)
        clear Tz10
        clear hcall hb11 HX10 p0 p1 p2 p3 p4 p5 p6 p7 p8 p9
        have f := HX11.out.at0
        simp only [List.mem_cons, List.not_mem_nil, or_false, forall_eq_or_imp, forall_eq] at f
        obtain ⟨p0, p1, p2, p3, p4, p5, p6, p7, p8, p9⟩ := f
        clear p0 p1 p2 p3 p4 p5 p6 p7 p8 p9
        go_wp2
        go_ret
        exact ⟨rfl, HX11.out.bel⟩
      · have hlo : layO [] 0 (some t0) = ([], 0, 50) := by
          unfold layO
          rw [if_pos (show M.rightB [] (0 : Int) = true from M.rightB_nat (l := []) (n := 0) ⟨rfl, by simp⟩)]
          simp only
          rw [if_neg hsm]
        have hhi : high t0 = 4611686018427387904 := by
          rw [← high_norm]
          exact high_big t0.norm 4611686018427387904 HOKN.out.2.1 (by omega) (by simpa using hsm)
        have HHI := Lib.hid hhi
        rw [hlo] at hlay
        clear hlo hhi
        unfold tv at hlay
        simp only [List.length_nil] at hlay
        go_wp2_with fail
        refine hlay.mono ?_
        rintro e w7 ⟨Ab, cb, rfl, hrb, hb7⟩
        have HX7 := Lib.hid (HX6.out.next hb7)
        skip
        have Tu7 := Lib.hid (Tu6.out.up hb7)
        clear Tu6
        have Tx7 := Lib.hid (Tx6.out.up hb7)
        clear Tx6
        have Ty7 := Lib.hid (Ty6.out.up hb7)
        clear Ty6
        clear hlay hb7 hrb HX6 p0 p1 p2 p3 p4 p5 p6 p7
        have f := HX7.out.at0
        simp only [List.mem_cons, List.not_mem_nil, or_false, forall_eq_or_imp, forall_eq] at f
        obtain ⟨p0, p1, p2, p3, p4, p5, p6, p7⟩ := f
        have HEN : Hid (endsR (some t0) = .tuple #[.int .i64 (low t0), .int .i64 (high t0), .int .i64 0]) := rfl
        rw [HHI.out] at HEN
        obtain ⟨lo0, hlo0⟩ : ∃ z, low t0 = z := ⟨_, rfl⟩
        rw [hlo0] at HEN
        clear hlo0
        have hcall := ends_arg (HA.out.up HX7.out.bel)
        rw [HEN.out] at hcall
        try unfold tv at hcall
        go_wp2_with fail
        refine hcall.mono ?_
        rintro e w8 ⟨rfl, hb8⟩
        have HX8 := Lib.hid (HX7.out.next hb8)
        have Tu8 := Lib.hid (Tu7.out.up hb8)
        clear Tu7
        have Tx8 := Lib.hid (Tx7.out.up hb8)
        clear Tx7
        have Ty8 := Lib.hid (Ty7.out.up hb8)
        clear Ty7
        clear hcall hb8 HX7 p0 p1 p2 p3 p4 p5 p6 p7
        have f := HX8.out.at0
        simp only [List.mem_cons, List.not_mem_nil, or_false, forall_eq_or_imp, forall_eq] at f
        obtain ⟨p0, p1, p2, p3, p4, p5, p6, p7⟩ := f
        have hcall := equal_any t0.norm t0.norm _ _ _ _ _ Tx8.out Ty8.out
        rw [eqT_refl] at hcall
        try unfold tv at hcall
        go_wp2_with fail
        refine hcall.mono ?_
        rintro e w9 ⟨rfl, hb9⟩
        have HX9 := Lib.hid (HX8.out.next hb9)
        have Tu9 := Lib.hid (Tu8.out.up hb9)
        clear Tu8
        have Tx9 := Lib.hid (Tx8.out.up hb9)
        clear Tx8
        have Ty9 := Lib.hid (Ty8.out.up hb9)
        clear Ty8
        clear hcall hb9 HX8 p0 p1 p2 p3 p4 p5 p6 p7
        have f := HX9.out.at0
        simp only [List.mem_cons, List.not_mem_nil, or_false, forall_eq_or_imp, forall_eq] at f
        obtain ⟨p0, p1, p2, p3, p4, p5, p6, p7⟩ := f
        clear p0 p1 p2 p3 p4 p5 p6 p7
        go_wp2
        go_ret
        exact ⟨rfl, HX9.out.bel⟩
  · have hzu2 : (zu == 0) = false := by simp [hzu]
    have hcall := norm_arg (HA.out.up HX2.out.bel)
    obtain ⟨rx, EX0⟩ : ∃ r, normR TA = r := ⟨_, rfl⟩
    rw [EX0] at hcall
    obtain ⟨tx, zx⟩ := rx
    have EX := Lib.hid EX0
    clear EX0
    try unfold tv at hcall
    go_wp2_with fail
    refine hcall.mono ?_
    rintro e w3 ⟨vx, rfl, hTx, hb3⟩
    obtain ⟨Ax, nx, cx, rfl⟩ := hTx.form
    simp only at hTx
    obtain ⟨ox, hox⟩ : ∃ o, tx.N = o := ⟨_, rfl⟩
    rw [hox] at hTx ⊢
    clear hox
    have hXX := HX2.out.next hb3
    have HX3 := Lib.hid (hXX.boxed (.int .i64 ox) (.slice Ax nx cx) 24)
    simp only [List.nil_append, List.cons_append] at HX3
    have hbx : Below w3.heap.size w3 (w3.alloc (.cells #[.int .i64 ox, .slice Ax nx cx] 24)) := (Below.refl _ w3).alloc (Nat.le_refl _) _
    have hby : Below (w2.alloc (.cells #[.int .i64 ou, .slice Au nu cu] 24)).heap.size (w2.alloc (.cells #[.int .i64 ou, .slice Au nu cu] 24)) (w3.alloc (.cells #[.int .i64 ox, .slice Ax nx cx] 24)) := hb3.trans (hbx.mono hb3.size)
    have Tu3 := Lib.hid (Tu2.out.up hby)
    clear Tu2
    have Tx3 := Lib.hid (hTx.old.up hbx)
    clear hcall hXX hbx hby hb3 hTx HX2 p0 p1 p2 p3
    unfold tv
    have f := HX3.out.at0
    simp only [List.mem_cons, List.not_mem_nil, or_false, forall_eq_or_imp, forall_eq] at f
    obtain ⟨p0, p1, p2, p3, p4, p5⟩ := f
    cases TA with
    | none =>
      have hzx : zx = 2 := by have := EX.out; simp only [normR, Prod.mk.injEq] at this; exact this.2.symm
      subst hzx
      clear EX
      go_wp2
      go_ret
      exact ⟨rfl, HX3.out.bel⟩
    | some t0 =>
      have hzx : zx = 0 := by have := EX.out; simp only [normR, Prod.mk.injEq] at this; exact this.2.symm
      have htx : tx = t0.norm := by have := EX.out; simp only [normR, Prod.mk.injEq] at this; exact this.1.symm
      subst hzx
      subst htx
      clear EX
      have HOK : Hid (okT t0 = true) := HA.out.inT.2
      have hokn := (okT_iff _).1 (okT_norm HOK.out)
      have HOKN := Lib.hid hokn
      have hUs : (strU (txt t0.norm)).size ≤ 100000 := by
        have := txt_len t0.norm 4611686018427387904 hokn.2.1 (by omega)
        rw [strU_size]; omega
      have HSH : Hid (showR (some t0) = .tuple #[.string (strU (txt t0.norm)), .int .i64 0]) := rfl
      have HPU : Hid (parseA (parse (ul (strU (txt t0.norm)))) = (t0.norm, 0)) := by show _ = _; rw [ul_of, back_parse HOK.out]; rfl
      obtain ⟨U, hU⟩ : ∃ U, strU (txt t0.norm) = U := ⟨_, rfl⟩
      rw [hU] at hUs HSH HPU
      clear hU hokn
      have hcall := show_arg (HA.out.up HX3.out.bel) (HTB.out.up HX3.out.bel)
      rw [HSH.out] at hcall
      try unfold tv at hcall
      go_wp2_with fail
      refine hcall.mono ?_
      rintro e w4 ⟨rfl, hb4⟩
      have HX4 := Lib.hid (HX3.out.next hb4)
      have Tu4 := Lib.hid (Tu3.out.up hb4)
      clear Tu3
      have Tx4 := Lib.hid (Tx3.out.up hb4)
      clear Tx3
      clear hcall hb4 HX3 p0 p1 p2 p3 p4 p5
      have f := HX4.out.at0
      simp only [List.mem_cons, List.not_mem_nil, or_false, forall_eq_or_imp, forall_eq] at f
      obtain ⟨p0, p1, p2, p3, p4, p5⟩ := f
      have hcall := parse_ans U (by omega) w4
      obtain ⟨ry, EY0⟩ : ∃ r, parseA (parse (ul U)) = r := ⟨_, rfl⟩
      rw [EY0] at hcall
      obtain ⟨ty, zy⟩ := ry
      have EY := Lib.hid EY0
      clear EY0
      try unfold tv at hcall
      go_wp2_with fail
      refine hcall.mono ?_
      rintro e w5 ⟨vy, rfl, hTy, hb5⟩
      obtain ⟨Ay, ny, cy, rfl⟩ := hTy.form
      simp only at hTy
      obtain ⟨oy, hoy⟩ : ∃ o, ty.N = o := ⟨_, rfl⟩
      rw [hoy] at hTy ⊢
      clear hoy
      have hXX := HX4.out.next hb5
      have HX5 := Lib.hid (hXX.boxed (.int .i64 oy) (.slice Ay ny cy) 24)
      simp only [List.nil_append, List.cons_append] at HX5
      have hbx : Below w5.heap.size w5 (w5.alloc (.cells #[.int .i64 oy, .slice Ay ny cy] 24)) := (Below.refl _ w5).alloc (Nat.le_refl _) _
      have hby : Below w4.heap.size w4 (w5.alloc (.cells #[.int .i64 oy, .slice Ay ny cy] 24)) := hb5.trans (hbx.mono hb5.size)
      have Tu5 := Lib.hid (Tu4.out.up hby)
      clear Tu4
      have Tx5 := Lib.hid (Tx4.out.up hby)
      clear Tx4
      have Ty5 := Lib.hid (hTy.old.up hbx)
      clear hcall hXX hbx hby hb5 hTy HX4 p0 p1 p2 p3 p4 p5
      unfold tv
      have f := HX5.out.at0
      simp only [List.mem_cons, List.not_mem_nil, or_false, forall_eq_or_imp, forall_eq] at f
      obtain ⟨p0, p1, p2, p3, p4, p5, p6, p7⟩ := f
      have hyy : ty = t0.norm ∧ zy = 0 := by have := EY.out; rw [HPU.out] at this; simp only [Prod.mk.injEq] at this; exact ⟨this.1.symm, this.2.symm⟩
      obtain ⟨rfl, rfl⟩ := hyy
      clear EY HPU HSH
      have hlay := lay_tree none 0 [] 0 (some t0) _ (w5.alloc (.cells #[.int .i64 oy, .slice Ay ny cy] 24)) (Row.none_ _ _ _) (by simp) (by simp) (by omega) (by omega) (HA.out.up HX5.out.bel)
      by_cases hsm : smallT t0.norm = true
      · have hlo : layO [] 0 (some t0) = (M.putL [] 0 (bitsE t0.norm), (bitsE t0.norm).length, 0) := by
          unfold layO
          rw [if_pos (show M.rightB [] (0 : Int) = true from M.rightB_nat (l := []) (n := 0) ⟨rfl, by simp⟩)]
          simp only
          rw [if_pos hsm]
          simp
        have htl := take_laid t0 HOK.out hsm
        have htk : takeR (M.putL [] 0 (bitsE t0.norm)) (((bitsE t0.norm).length : Nat) : Int) 0 = (t0.norm, (((bitsE t0.norm).length : Nat) : Int), 0) := by
          unfold takeR
          rw [if_pos ⟨htl.1, by omega, by omega⟩]
          simp only [Int.toNat_natCast, show (0 : Int).toNat = 0 from rfl]
          rw [htl.2]
        have hLL : (M.putL [] 0 (bitsE t0.norm)).length ≤ 1000000 := by
          have h1 := put_len (l := []) (n := 0) ⟨rfl, by simp⟩ (bitsE t0.norm)
          have h2 := bitsE_len t0.norm 4611686018427387904 HOKN.out.2.1 (by omega)
          have h3 := HOKN.out.2.2
          simp only [List.length_nil] at h1
          omega
        have hKK : (bitsE t0.norm).length ≤ 1000000 := by
          have h2 := bitsE_len t0.norm 4611686018427387904 HOKN.out.2.1 (by omega)
          have h3 := HOKN.out.2.2
          omega
        obtain ⟨LL, hLe⟩ : ∃ L, M.putL [] 0 (bitsE t0.norm) = L := ⟨_, rfl⟩
        obtain ⟨KK, hKe⟩ : ∃ K, (bitsE t0.norm).length = K := ⟨_, rfl⟩
        rw [hLe, hKe] at hlo htk
        rw [hLe] at hLL
        rw [hKe] at hKK
        rw [hlo] at hlay
        have HTK := Lib.hid htk
        clear hlo htl htk hLe hKe
        unfold tv at hlay
        simp only [List.length_nil] at hlay
        go_wp2_with fail
        refine hlay.mono ?_
        rintro e w6 ⟨Ab, cb, rfl, hrb, hb6⟩
        have HX6 := Lib.hid (HX5.out.next hb6)
        have HRB := Lib.hid hrb
        have Tu6 := Lib.hid (Tu5.out.up hb6)
        clear Tu5
        have Tx6 := Lib.hid (Tx5.out.up hb6)
        clear Tx5
        have Ty6 := Lib.hid (Ty5.out.up hb6)
        clear Ty5
        clear hlay hb6 hrb HX5 p0 p1 p2 p3 p4 p5 p6 p7
        have f := HX6.out.at0
        simp only [List.mem_cons, List.not_mem_nil, or_false, forall_eq_or_imp, forall_eq] at f
        obtain ⟨p0, p1, p2, p3, p4, p5, p6, p7⟩ := f
        have hcall := takeP_any Ab cb LL (KK : Int) 0 w6 HRB.out (by omega) (by omega) (by omega)
        rw [HTK.out] at hcall
        clear HTK HRB
        go_wp2_with fail
        refine hcall.mono ?_
        rintro e w7 ⟨vz, rfl, hTz, hb7⟩
        obtain ⟨Az, nz, cz, rfl⟩ := hTz.form
        simp only at hTz
        obtain ⟨oz, hoz⟩ : ∃ o, t0.norm.N = o := ⟨_, rfl⟩
        rw [hoz] at hTz ⊢
        clear hoz
        have hXX := HX6.out.next hb7
        have HX7 := Lib.hid (hXX.boxed (.int .i64 oz) (.slice Az nz cz) 24)
        simp only [List.nil_append, List.cons_append] at HX7
        have hbx : Below w7.heap.size w7 (w7.alloc (.cells #[.int .i64 oz, .slice Az nz cz] 24)) := (Below.refl _ w7).alloc (Nat.le_refl _) _
        have hby : Below w6.heap.size w6 (w7.alloc (.cells #[.int .i64 oz, .slice Az nz cz] 24)) := hb7.trans (hbx.mono hb7.size)
        have Tu7 := Lib.hid (Tu6.out.up hby)
        clear Tu6
        have Tx7 := Lib.hid (Tx6.out.up hby)
        clear Tx6
        have Ty7 := Lib.hid (Ty6.out.up hby)
        clear Ty6
        have Tz7 := Lib.hid (hTz.old.up hbx)
        clear hcall hXX hbx hby hb7 hTz HX6 p0 p1 p2 p3 p4 p5 p6 p7
        unfold tv
        have f := HX7.out.at0
        simp only [List.mem_cons, List.not_mem_nil, or_false, forall_eq_or_imp, forall_eq] at f
        obtain ⟨p0, p1, p2, p3, p4, p5, p6, p7, p8, p9⟩ := f
        have hcall := equal_any t0.norm t0.norm _ _ _ _ _ Tx7.out Tz7.out
        rw [eqT_refl] at hcall
        try unfold tv at hcall
        go_wp2_with fail
        refine hcall.mono ?_
        rintro e w8 ⟨rfl, hb8⟩
        have HX8 := Lib.hid (HX7.out.next hb8)
        have Tu8 := Lib.hid (Tu7.out.up hb8)
        clear Tu7
        have Tx8 := Lib.hid (Tx7.out.up hb8)
        clear Tx7
        have Ty8 := Lib.hid (Ty7.out.up hb8)
        clear Ty7
        have Tz8 := Lib.hid (Tz7.out.up hb8)
        clear Tz7
        clear hcall hb8 HX7 p0 p1 p2 p3 p4 p5 p6 p7 p8 p9
        have f := HX8.out.at0
        simp only [List.mem_cons, List.not_mem_nil, or_false, forall_eq_or_imp, forall_eq] at f
        obtain ⟨p0, p1, p2, p3, p4, p5, p6, p7, p8, p9⟩ := f
        have HEN : Hid (endsR (some t0) = .tuple #[.int .i64 (low t0), .int .i64 (high t0), .int .i64 0]) := rfl
        obtain ⟨lo0, hlo0⟩ : ∃ z, low t0 = z := ⟨_, rfl⟩
        rw [hlo0] at HEN
        clear hlo0
        obtain ⟨hi0, hhi0⟩ : ∃ z, high t0 = z := ⟨_, rfl⟩
        rw [hhi0] at HEN
        clear hhi0
        have hcall := ends_arg (HA.out.up HX8.out.bel)
        rw [HEN.out] at hcall
        try unfold tv at hcall
        go_wp2_with fail
        refine hcall.mono ?_
        rintro e w9 ⟨rfl, hb9⟩
        have HX9 := Lib.hid (HX8.out.next hb9)
        have Tu9 := Lib.hid (Tu8.out.up hb9)
        clear Tu8
        have Tx9 := Lib.hid (Tx8.out.up hb9)
        clear Tx8
        have Ty9 := Lib.hid (Ty8.out.up hb9)
        clear Ty8
        have Tz9 := Lib.hid (Tz8.out.up hb9)
        clear Tz8
        clear hcall hb9 HX8 p0 p1 p2 p3 p4 p5 p6 p7 p8 p9
        have f := HX9.out.at0
        simp only [List.mem_cons, List.not_mem_nil, or_false, forall_eq_or_imp, forall_eq] at f
        obtain ⟨p0, p1, p2, p3, p4, p5, p6, p7, p8, p9⟩ := f
        have hcall := equal_any t0.norm t0.norm _ _ _ _ _ Tx9.out Ty9.out
        rw [eqT_refl] at hcall
        try unfold tv at hcall
        go_wp2_with fail
        refine hcall.mono ?_
        rintro e w10 ⟨rfl, hb10⟩
        have HX10 := Lib.hid (HX9.out.next hb10)
        have Tu10 := Lib.hid (Tu9.out.up hb10)
        clear Tu9
        have Tx10 := Lib.hid (Tx9.out.up hb10)
        clear Tx9
        have Ty10 := Lib.hid (Ty9.out.up hb10)
        clear Ty9
        have Tz10 := Lib.hid (Tz9.out.up hb10)
        clear Tz9
        clear hcall hb10 HX9 p0 p1 p2 p3 p4 p5 p6 p7 p8 p9
        have f := HX10.out.at0
        simp only [List.mem_cons, List.not_mem_nil, or_false, forall_eq_or_imp, forall_eq] at f
        obtain ⟨p0, p1, p2, p3, p4, p5, p6, p7, p8, p9⟩ := f
        clear p0 p1 p2 p3 p4 p5 p6 p7 p8 p9
        go_wp2
        go_ret
        exact ⟨rfl, HX10.out.bel⟩
      · have hlo : layO [] 0 (some t0) = ([], 0, 50) := by
          unfold layO
          rw [if_pos (show M.rightB [] (0 : Int) = true from M.rightB_nat (l := []) (n := 0) ⟨rfl, by simp⟩)]
          simp only
          rw [if_neg hsm]
        have hhi : high t0 = 4611686018427387904 := by
          rw [← high_norm]
          exact high_big t0.norm 4611686018427387904 HOKN.out.2.1 (by omega) (by simpa using hsm)
        have HHI := Lib.hid hhi
        rw [hlo] at hlay
        clear hlo hhi
        unfold tv at hlay
        simp only [List.length_nil] at hlay
        go_wp2_with fail
        refine hlay.mono ?_
        rintro e w6 ⟨Ab, cb, rfl, hrb, hb6⟩
        have HX6 := Lib.hid (HX5.out.next hb6)
        skip
        have Tu6 := Lib.hid (Tu5.out.up hb6)
        clear Tu5
        have Tx6 := Lib.hid (Tx5.out.up hb6)
        clear Tx5
        have Ty6 := Lib.hid (Ty5.out.up hb6)
        clear Ty5
        clear hlay hb6 hrb HX5 p0 p1 p2 p3 p4 p5 p6 p7
        have f := HX6.out.at0
        simp only [List.mem_cons, List.not_mem_nil, or_false, forall_eq_or_imp, forall_eq] at f
        obtain ⟨p0, p1, p2, p3, p4, p5, p6, p7⟩ := f
        have HEN : Hid (endsR (some t0) = .tuple #[.int .i64 (low t0), .int .i64 (high t0), .int .i64 0]) := rfl
        rw [HHI.out] at HEN
        obtain ⟨lo0, hlo0⟩ : ∃ z, low t0 = z := ⟨_, rfl⟩
        rw [hlo0] at HEN
        clear hlo0
        have hcall := ends_arg (HA.out.up HX6.out.bel)
        rw [HEN.out] at hcall
        try unfold tv at hcall
        go_wp2_with fail
        refine hcall.mono ?_
        rintro e w7 ⟨rfl, hb7⟩
        have HX7 := Lib.hid (HX6.out.next hb7)
        have Tu7 := Lib.hid (Tu6.out.up hb7)
        clear Tu6
        have Tx7 := Lib.hid (Tx6.out.up hb7)
        clear Tx6
        have Ty7 := Lib.hid (Ty6.out.up hb7)
        clear Ty6
        clear hcall hb7 HX6 p0 p1 p2 p3 p4 p5 p6 p7
        have f := HX7.out.at0
        simp only [List.mem_cons, List.not_mem_nil, or_false, forall_eq_or_imp, forall_eq] at f
        obtain ⟨p0, p1, p2, p3, p4, p5, p6, p7⟩ := f
        have hcall := equal_any t0.norm t0.norm _ _ _ _ _ Tx7.out Ty7.out
        rw [eqT_refl] at hcall
        try unfold tv at hcall
        go_wp2_with fail
        refine hcall.mono ?_
        rintro e w8 ⟨rfl, hb8⟩
        have HX8 := Lib.hid (HX7.out.next hb8)
        have Tu8 := Lib.hid (Tu7.out.up hb8)
        clear Tu7
        have Tx8 := Lib.hid (Tx7.out.up hb8)
        clear Tx7
        have Ty8 := Lib.hid (Ty7.out.up hb8)
        clear Ty7
        clear hcall hb8 HX7 p0 p1 p2 p3 p4 p5 p6 p7
        have f := HX8.out.at0
        simp only [List.mem_cons, List.not_mem_nil, or_false, forall_eq_or_imp, forall_eq] at f
        obtain ⟨p0, p1, p2, p3, p4, p5, p6, p7⟩ := f
        clear p0 p1 p2 p3 p4 p5 p6 p7
        go_wp2
        go_ret
        exact ⟨rfl, HX8.out.bel⟩
end Go.Proofs.YtflghlmikpfnpaaDoor.E

namespace Go.Proofs.YtflghlmikpfnpaaDoor.eventBack
open Go.ChangeShapes Go.WideShapes Go.ChangeAt Go.RowKit Go.Proofs.YtflghlmikpfnpaaDoor.E
set_option linter.unusedVariables false

set_option maxRecDepth 100000 in
theorem lifted (os : Os) (started : os.Started) (H : Type) (enc : TypeId × Value → H) :
    ReturnsInHanded {} Tryd.checked os 9 .any (fun w args => (Rows.eventBackSpec.pre enc Tryd.prog Tryd.f9 [] false w args ∧ laidMetH Tryd.prog laid3 w) ∧ sizedMet enc Tryd.prog Tryd.f9 (OpenSpec.ofChange Rows.eventBackSpec) false w args)
      (Rows.eventBackSpec.post enc Tryd.prog Tryd.f9 false true false false) := by
  refine returnsInHanded_of_change_and (C := Tryd.checked) (X := fun w _ => laidMetH Tryd.prog laid3 w) (fun _ _ _ hh h => h.of_heap hh) own started (by kernel_rfl) Tryd.func9
    (ChangeSpec.witness_shaped (enc := enc) (C := Tryd.checked) (os := os) (X := fun w _ => laidMetH Tryd.prog laid3 w) false (World.doorLaid Tryd.prog 24 os) #[.agg #[.int .i64 0, .slice none 0 0], .string ByteArray.empty] 8 rfl (World.shaped_of_RefB (by kernel_rfl) (by kernel_rfl)) (by kernel_rfl) (by kernel_rfl) (by kernel_rfl) (door_met os _)) ?_
  intro W base args ds gs before hval0 hW _ hsz0 hL _
  have hval : ∀ (j : Nat) t v, Tryd.f9.params[j]? = some t → args[j]? = some v → Value.okWide Tryd.prog W .any base t v := hval0
  have hsz : (DataW.weightsEach Tryd.prog (Tryd.f9.params.toList ++ Rows.eventBackSpec.plain.varTypes Tryd.prog) (ds ++ gs)).all (· ≤ reachBytes) = true := hsz0
  have hW' := hW
  obtain ⟨p, q, hA0, hV, rfl, hfz, hnd⟩ := hW
  have hA : DataW.TrodAll enc Tryd.prog W 0 (fun _ => true) true Tryd.f9.params.toList args.toList ds p := hA0
  rw [Tryd.params9] at hA hval hsz
  obtain ⟨v0, vs0, d0, ds0, p0, q0, hargs, rfl, rfl, h0, r0⟩ := trodAll_cons hA
  obtain ⟨v1, vs1, d1, ds1, p1, q1, rfl, rfl, rfl, h1, r1⟩ := trodAll_cons r0
  obtain ⟨rfl, rfl, rfl⟩ := trodAll_nil r1
  obtain rfl : args = #[v0, v1] := by cases args; simp_all
  obtain ⟨rfl, rfl⟩ := trodVars_none hV
  have k0 := h0
  have lt0 : ∀ x ∈ p0, x.block < W.heap.size := by obtain ⟨m, hm⟩ := k0; exact DataW.trod_lt m _ _ _ hm
  have arg0 := argI (hval 0 24 v0 rfl rfl) h0
  obtain ⟨T0, arg0⟩ := arg0
  obtain ⟨a1, rfl, rfl, rfl, m1⟩ := ChangeMaps.open_string Tryd.underlying9 (hval 1 9 v1 rfl rfl) h1
  have reach1 : a1.size ≤ 140737488351232 := by
    have := sized_string hsz (j := 1) (t := 9) rfl rfl
    simp only [reachBytes] at this
    simpa using this
  clear hA0 hval0 hsz hsz0
  refine (back_walk T0 v0 a1 W (tab_of hL) arg0 reach1).mono fun e W' ⟨he, bel⟩ => ?_
  subst he
  exact ⟨_, rfl, _, _, _, [], _, [], hW', trodAll_mk1 (shut_bool Tryd.underlying4 _), (trodAll_cons_mk (Below.trod laidOut (by kernel_rfl) (of_decide_eq_true (by kernel_rfl)) k0 bel lt0) (trodAll_cons_mk (ChangeMaps.shut_string Tryd.underlying9 m1) trodAll_mk0)), rfl, bel.frame _, fun h => by cases h⟩

theorem over : Rows.eventBackRow.holds Tryd.pinned (OpenSpec.ofChange Rows.eventBackSpec) :=
  OpenClaim.holds_of_wide 9 Tryd.f9 rfl rfl rfl rfl rfl rfl rfl ⟨rfl, rfl, rfl, rfl, rfl⟩ rfl rfl rfl rfl rfl (by kernel_rfl) Tryd.func9 (by kernel_rfl)
    (of_decide_eq_true (by kernel_rfl)) (by unfold Func.isWrapper; first | (rw [if_pos (by decide +kernel)]; kernel_rfl) | (rw [if_neg (by decide +kernel)]; exact ⟨rfl, rfl⟩))
    (fun os started H enc _ => lifted os started H enc)

theorem proved : Rows.EventBackCardSaid :=
  Claim7.holds_tied_plain_at .later [] [.data, .data, .data] true (true, "f73f9f6dd49a73373b1000461e477c02230f8f2a90d306b3bf6b56b414b907ff") false
    over (fun _ h => by cases h) (by kernel_rfl) (fun _ h => by cases h) eventBack_row_tie rfl ⟨rfl, rfl⟩ (by kernel_rfl) rfl
    (fun f fn hf hfn => by
      obtain rfl : f = 9 := Option.some.inj ((show Tryd.prog.funcNamed "pannier/pannierlaw05.EventBack" = some 9 by kernel_rfl).symm.trans hf) |>.symm
      obtain rfl : fn = Tryd.f9 := (Option.some.inj (Tryd.func9.symm.trans hfn)).symm
      exact ⟨by kernel_rfl, fun j t ht => by
        rw [Tryd.params9] at ht
        have hm : t ∈ [24, 9] := List.mem_of_getElem? (by simpa using ht)
        simp only [List.mem_cons, List.not_mem_nil, or_false] at hm
        rcases hm with rfl | rfl
        · exact (show Tryd.prog.wantsStandIn 24 = false by kernel_rfl)
        · exact (show Tryd.prog.wantsStandIn 9 = false by kernel_rfl)⟩)
    (by kernel_rfl)
#print axioms proved
end Go.Proofs.YtflghlmikpfnpaaDoor.eventBack
