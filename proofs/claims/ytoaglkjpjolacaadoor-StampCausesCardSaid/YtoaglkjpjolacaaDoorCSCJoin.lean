/-
  StampCauses: a join.
-/
import Derived.Test.YtoaglkjpjolacaaDoorCC2
namespace Go.Proofs.YtoaglkjpjolacaaDoor.S
open Go.RowKit
set_option linter.unusedVariables false
set_option linter.unusedSimpArgs false
section
variable {W W' : World} {B g gl gs n : Nat} {CS : List Sc} {SS : List Rw} {Q QL QS : List St3}
theorem Stx.cutL (h : Stx W B g gl gs CS SS QL QS n) (k : Nat) (hk : k ≤ QL.length) : Stx (W.setCell ⟨g, 0, none⟩ (.slice (some ⟨gl, 0, none⟩) k CS.length)) B g gl gs CS SS (QL.take k) QS n := by
  have hn := three_noT h.st
  have hb := set_but W g 0 (.slice (some ⟨gl, 0, none⟩) k CS.length)
  have hsz : W.heap.size ≤ (W.setCell ⟨g, 0, none⟩ (.slice (some ⟨gl, 0, none⟩) k CS.length)).heap.size := by rw [set_size]; exact Nat.le_refl _
  have hl : (QL.take k).length = k := by simp; omega
  refine ⟨?_, h.bl.but hb (h.bl.ne h.st (by decide)), h.bs.but hb (h.bs.ne h.st (by decide)), by rw [hl]; have := h.lc; omega, h.ls, fun j p hp => ?_, fun j p hp => ?_, h.hB⟩
  · rw [hl]; exact h.st.store 0 _
  · have hj : j < k := by have := (List.getElem?_eq_some_iff.1 hp).1; omega
    rw [List.getElem?_take, if_pos hj] at hp
    obtain ⟨s', h1, h2, h3⟩ := h.el j p hp
    exact ⟨s', h1, hn.it hb hsz h2, hn.et hb hsz h3⟩
  · obtain ⟨r', h1, h2⟩ := h.er j p hp
    exact ⟨r', h1, h2.but hb h.st (by decide)⟩
theorem Stx.cutR (h : Stx W B g gl gs CS SS QL QS n) (k : Nat) (hk : k ≤ QS.length) : Stx (W.setCell ⟨g, 1, none⟩ (.slice (some ⟨gs, 0, none⟩) k SS.length)) B g gl gs CS SS QL (QS.take k) n := by
  have hn := three_noT h.st
  have hb := set_but W g 1 (.slice (some ⟨gs, 0, none⟩) k SS.length)
  have hsz : W.heap.size ≤ (W.setCell ⟨g, 1, none⟩ (.slice (some ⟨gs, 0, none⟩) k SS.length)).heap.size := by rw [set_size]; exact Nat.le_refl _
  have hl : (QS.take k).length = k := by simp; omega
  refine ⟨?_, h.bl.but hb (h.bl.ne h.st (by decide)), h.bs.but hb (h.bs.ne h.st (by decide)), h.lc, by rw [hl]; have := h.ls; omega, fun j p hp => ?_, fun j p hp => ?_, h.hB⟩
  · rw [hl]; exact h.st.store 1 _
  · obtain ⟨s', h1, h2, h3⟩ := h.el j p hp
    exact ⟨s', h1, hn.it hb hsz h2, hn.et hb hsz h3⟩
  · have hj : j < k := by have := (List.getElem?_eq_some_iff.1 hp).1; omega
    rw [List.getElem?_take, if_pos hj] at hp
    obtain ⟨r', h1, h2⟩ := h.er j p hp
    exact ⟨r', h1, h2.but hb h.st (by decide)⟩
end
theorem Blk.stamp {W : World} {gy : Nat} {s : Sc} (h : Blk W gy 29 (cellsS [s])) (s' : Sc) : Blk ((((W.setCell ⟨gy, 0, none⟩ (.bool s'.o)).setCell ⟨gy, 1, none⟩ (.slice s'.A s'.n s'.c)).setCell ⟨gy, 2, none⟩ (.int .i64 s'.z)).setCell ⟨gy, 3, none⟩ (.slice s'.B s'.m s'.d)) gy 29 (cellsS [s']) := (((h.store 0 _).store 1 _).store 2 _).store 3 _
theorem stamp_but (W : World) (g : Nat) (u0 u1 u2 u3 : Value) : But W ((((W.setCell ⟨g, 0, none⟩ u0).setCell ⟨g, 1, none⟩ u1).setCell ⟨g, 2, none⟩ u2).setCell ⟨g, 3, none⟩ u3) g := fun b hne _ => by
  rw [Below.heap_setCell _ _ _ _ hne, Below.heap_setCell _ _ _ _ hne, Below.heap_setCell _ _ _ _ hne, Below.heap_setCell _ _ _ _ hne]
theorem stamp_below {B : Nat} {W W' : World} {g : Nat} (h : Below B W W') (hg : B ≤ g) (u0 u1 u2 u3 : Value) : Below B W ((((W'.setCell ⟨g, 0, none⟩ u0).setCell ⟨g, 1, none⟩ u1).setCell ⟨g, 2, none⟩ u2).setCell ⟨g, 3, none⟩ u3) := (((h.setCell (p := ⟨g, _, none⟩) hg _).setCell (p := ⟨g, _, none⟩) hg _).setCell (p := ⟨g, _, none⟩) hg _).setCell (p := ⟨g, _, none⟩) hg _
theorem stamp_size (W : World) (g : Nat) (u0 u1 u2 u3 : Value) : ((((W.setCell ⟨g, 0, none⟩ u0).setCell ⟨g, 1, none⟩ u1).setCell ⟨g, 2, none⟩ u2).setCell ⟨g, 3, none⟩ u3).heap.size = W.heap.size := by simp
theorem Blk.c4 {W : World} {gy : Nat} {s : Sc} (h : Blk W gy 29 (cellsS [s])) : W.cell? ⟨gy, 0, none⟩ = some (.bool s.o) ∧ W.cell? ⟨gy, 1, none⟩ = some (.slice s.A s.n s.c) ∧ W.cell? ⟨gy, 2, none⟩ = some (.int .i64 s.z) ∧ W.cell? ⟨gy, 3, none⟩ = some (.slice s.B s.m s.d) := ⟨h.cell 0, h.cell 1, h.cell 2, h.cell 3⟩
theorem cjoin_same {W : World} {B g gl gs n a : Nat} {CS : List Sc} {SS : List Rw} {Q : List St3} {pk : Bool} (h : Stt W B g gl gs CS SS Q n) : Calls Tryd.prog 40 #[.pointer (some ⟨g, 0, none⟩), .int .i64 a, .int .i64 a, .bool pk] W (Done W B g Q n) := by
  have HT := Lib.hid h
  clear h
  go_enter Tryd.func40, Tryd.ntmps40
  go_wp2
  go_ret
  exact ⟨rfl, ⟨gl, gs, _, _, HT.out⟩, Below.refl _ _⟩
theorem Stt.aside {W W' : World} {B g gl gs n gy : Nat} {CS : List Sc} {SS : List Rw} {Q : List St3} (h : Stt W B g gl gs CS SS Q n) (hb : But W W' gy) (hsz : W'.heap.size = W.heap.size) {s : Sc} (hy : Blk W gy 29 (cellsS [s])) (h1 : g ≠ gy) (h2 : gl ≠ gy) (h3 : gs ≠ gy) : Stt W' B g gl gs CS SS Q n where
  st := h.st.but hb h1
  bl := h.bl.but hb h2
  bs := h.bs.but hb h3
  lc := h.lc
  ls := h.ls
  el j q hq := by obtain ⟨s, k1, k2, k3⟩ := h.el j q hq; exact ⟨s, k1, (cellsS_noT hy).it hb (Nat.le_of_eq hsz.symm) k2, (cellsS_noT hy).et hb (Nat.le_of_eq hsz.symm) k3⟩
  er j q hq := by obtain ⟨r, k1, k2⟩ := h.er j q hq; exact ⟨r, k1, k2.but hb hy (by decide)⟩
  hB := h.hB
set_option maxRecDepth 100000 in
set_option maxHeartbeats 12800000 in
theorem cjoin_peek {W : World} {B g gl gs n a b : Nat} {CS : List Sc} {SS : List Rw} {Q : List St3} {q p : St3} {i1 : I.Tr} {e1 : E.Tr} (hpk : peekR (I.fit p.1) (E.fit p.2.1) = ((.leaf false, p.2.1.norm), 0)) (h : Stt W B g gl gs CS SS Q n) (hq : Q[a]? = some q) (hp : Q[b]? = some p) (hab : a ≠ b) (hQ : Q.length ≤ 8)
    (hev : joinS (I.fit q.1) (E.fit q.2.1) (I.fit (.leaf false)) (E.fit p.2.1.norm) = ((i1, e1), 0)) (ll : q.2.2.length ≤ 1000) (lm : p.2.2.length ≤ 1000) (hB : B ≤ W.heap.size) : Calls Tryd.prog 40 #[.pointer (some ⟨g, 0, none⟩), .int .i64 a, .int .i64 b, .bool true] W (Done W B g (Q.set a (i1, e1, bothL q.2.2 p.2.2)) n) := by
  have ha : a < Q.length := (List.getElem?_eq_some_iff.1 hq).1
  have hb : b < Q.length := (List.getElem?_eq_some_iff.1 hp).1
  obtain ⟨⟨oa, Aa, na, ca, za, Ba, ma, da⟩, hs, hsi, hse⟩ := h.el a q hq
  obtain ⟨⟨ob, Ab, nb, cb, zb, Bb, mb, db⟩, hs', hsi', hse'⟩ := h.el b p hp
  obtain ⟨⟨A, m0, c⟩, hr, hrk⟩ := h.er a q hq
  obtain ⟨⟨A', m1, c'⟩, hr', hrk'⟩ := h.er b p hp
  obtain ⟨x1, hmc, hrow⟩ := id hrk
  obtain ⟨x2, hmc', hrow'⟩ := id hrk'
  simp only at x1 hmc x2 hmc'
  subst x1
  subst x2
  obtain ⟨c0, c1, c2⟩ := h.c3
  obtain ⟨d0, d1, d2, d3⟩ := h.c4 hs'
  have lg := h.st.lt
  have lgl := h.bl.lt
  have lgs := h.bs.lt
  have n1 : gl ≠ g := h.bl.ne h.st (by decide)
  have n2 : gs ≠ g := h.bs.ne h.st (by decide)
  have n3 : gs ≠ gl := h.bs.ne h.bl (by decide)
  have hbW : Below W.heap.size W (W.alloc (.cells #[.bool ob, .slice Ab nb cb, .int .i64 zb, .slice Bb mb db] 29)) := (Below.refl _ W).alloc (Nat.le_refl _) _
  have HT1 := Lib.hid (h.next hbW)
  have HBY1 : Hid (Blk (W.alloc (.cells #[.bool ob, .slice Ab nb cb, .int .i64 zb, .slice Bb mb db] 29)) W.heap.size 29 (cellsS [⟨ob, Ab, nb, cb, zb, Bb, mb, db⟩])) := Lib.hid (Blk.new W 29 (cellsS [⟨ob, Ab, nb, cb, zb, Bb, mb, db⟩]))
  have HYI1 := Lib.hid (I.InT.up hsi' hbW)
  have HYE1 := Lib.hid (E.InP.up hse' hbW)
  have HBE1 := Lib.hid (hbW.mono hB)
  have HS := Lib.hid hs
  have HR := Lib.hid hr
  have HR' := Lib.hid hr'
  have HQ := Lib.hid hq
  have HP := Lib.hid hp
  have HA := Lib.hid ha
  have HBB := Lib.hid hb
  have HEV := Lib.hid hev
  have HLL := Lib.hid ll
  have HLM := Lib.hid lm
  have hai : (a : Int) < (Q.length : Int) := by omega
  have hbi : (b : Int) < (Q.length : Int) := by omega
  have habi : ((a : Int) == (b : Int)) = false := beq_eq_false_iff_ne.2 (by omega)
  have hl1 : (Q.length : Int) - 1 = ((Q.length - 1 : Nat) : Int) := by omega
  have hli : ((Q.length - 1 : Nat) : Int) < (Q.length : Int) := by omega
  have hlic : ((Q.length - 1 : Nat) : Int) ≤ (CS.length : Int) := by have := h.lc; omega
  have hlis : ((Q.length - 1 : Nat) : Int) ≤ (SS.length : Int) := by have := h.ls; omega
  obtain ⟨lst, hlst⟩ : ∃ l, Q.length - 1 = l := ⟨_, rfl⟩
  rw [hlst] at hl1 hli hlic hlis
  obtain ⟨lq, hlq⟩ : ∃ l, Q.length = l := ⟨_, rfl⟩
  obtain ⟨lc, hlc⟩ : ∃ l, CS.length = l := ⟨_, rfl⟩
  obtain ⟨ls, hls⟩ : ∃ l, SS.length = l := ⟨_, rfl⟩
  rw [hlq] at hai hbi c0 c1 hl1 hli
  rw [hlc] at c0 hlic
  rw [hls] at c1 hlis
  have hlq8 : lq ≤ 8 := by omega
  have hlq2 : 2 ≤ lq := by omega
  have hlst8 : lst ≤ 8 := by omega
  have HLQ := Lib.hid hlq
  have HLC := Lib.hid hlc
  have HLS := Lib.hid hls
  have HLT := Lib.hid hlst
  have s1 : (W.alloc (.cells #[.bool ob, .slice Ab nb cb, .int .i64 zb, .slice Bb mb db] 29)).heap.size = W.heap.size + 1 := by simp
  have HPK := Lib.hid hpk
  clear h hq hp hr hr' hrk hrk' hs hs' hsi hse hsi' hse' hrow hrow' hmc hmc' hlq hlc hls hlst ha hb hev ll lm hQ hbW hpk
  simp only at d0 d1 d2 d3
  go_enter Tryd.func40, Tryd.ntmps40
  go_upto_region 5 with fail
  generalize W.alloc (.cells #[.bool ob, .slice Ab nb cb, .int .i64 zb, .slice Bb mb db] 29) = w1 at *
  clear c0 c1 c2 d0 d1 d2 d3
  obtain ⟨b0, b1, b2, b3⟩ := HBY1.out.c4
  have hcall := peek_any (sin_of (s := ⟨ob, Ab, nb, cb, zb, Bb, mb, db⟩) HYI1.out HYE1.out).1.arg
  rw [HPK.out] at hcall
  unfold Sc.v sv at hcall
  simp only at b0 b1 b2 b3 hcall
  go_wp2_with fail
  refine hcall.mono ?_
  rintro e w2 ⟨vk, rfl, hk, hb2⟩
  simp only at hk ⊢
  obtain ⟨ok, Ak, nk, ck, Bk, mk, dk, rfl, hki, hke⟩ := hk
  obtain ⟨zk, hzk⟩ : ∃ z, p.2.1.norm.N = z := ⟨_, rfl⟩
  rw [hzk] at hke ⊢
  have hb3 : Below w2.heap.size w2 (w2.alloc (.cells #[.bool ok, .slice Ak nk ck, .int .i64 zk, .slice Bk mk dk] 29)) := (Below.refl _ w2).alloc (Nat.le_refl _) _
  have HT3 := Lib.hid ((HT1.out.next hb2).next hb3)
  have HYI3 := Lib.hid (I.InT.up hki hb3)
  have HYE3 := Lib.hid (E.InP.up hke hb3)
  have HBY3 : Hid (Blk (w2.alloc (.cells #[.bool ok, .slice Ak nk ck, .int .i64 zk, .slice Bk mk dk] 29)) W.heap.size 29 (cellsS [⟨ob, Ab, nb, cb, zb, Bb, mb, db⟩])) := Lib.hid ((HBY1.out.below hb2 HBY1.out.lt).below hb3 (Nat.lt_of_lt_of_le HBY1.out.lt hb2.size))
  have HBK3 : Hid (Blk (w2.alloc (.cells #[.bool ok, .slice Ak nk ck, .int .i64 zk, .slice Bk mk dk] 29)) w2.heap.size 29 (cellsS [⟨ok, Ak, nk, ck, zk, Bk, mk, dk⟩])) := Lib.hid (Blk.new w2 29 (cellsS [⟨ok, Ak, nk, ck, zk, Bk, mk, dk⟩]))
  have HBE3 := Lib.hid ((HBE1.out.trans (hb2.mono (Nat.le_trans hB HBE1.out.size))).trans (hb3.mono (Nat.le_trans (Nat.le_trans hB HBE1.out.size) hb2.size)))
  have s2 : w1.heap.size ≤ w2.heap.size := hb2.size
  clear hcall hki hke hb2 hb3 hzk b0 b1 b2 b3 HT1 HYI1 HYE1 HBY1 HBE1
  unfold sv
  go_upto_region 6 with fail
  generalize w2.alloc (.cells #[.bool ok, .slice Ak nk ck, .int .i64 zk, .slice Bk mk dk] 29) = w3 at *
  obtain ⟨b0, b1, b2, b3⟩ := HBK3.out.c4
  obtain ⟨c0, c1, c2, c3⟩ := HBY3.out.c4
  have f0 := HBY3.out.frozen 0
  have f1 := HBY3.out.frozen 1
  have f2 := HBY3.out.frozen 2
  have f3 := HBY3.out.frozen 3
  simp only at b0 b1 b2 b3 c0 c1 c2 c3
  go_upto_region 9 with fail
  have hsz : ((((w3.setCell ⟨W.heap.size, 0, none⟩ (.bool ok)).setCell ⟨W.heap.size, 1, none⟩ (.slice Ak nk ck)).setCell ⟨W.heap.size, 2, none⟩ (.int .i64 zk)).setCell ⟨W.heap.size, 3, none⟩ (.slice Bk mk dk)).heap.size = w3.heap.size := stamp_size _ _ _ _ _ _
  have hbt : But w3 ((((w3.setCell ⟨W.heap.size, 0, none⟩ (.bool ok)).setCell ⟨W.heap.size, 1, none⟩ (.slice Ak nk ck)).setCell ⟨W.heap.size, 2, none⟩ (.int .i64 zk)).setCell ⟨W.heap.size, 3, none⟩ (.slice Bk mk dk)) W.heap.size := stamp_but _ _ _ _ _ _
  have HYI4 : Hid (IT ((((w3.setCell ⟨W.heap.size, 0, none⟩ (.bool ok)).setCell ⟨W.heap.size, 1, none⟩ (.slice Ak nk ck)).setCell ⟨W.heap.size, 2, none⟩ (.int .i64 zk)).setCell ⟨W.heap.size, 3, none⟩ (.slice Bk mk dk)) (.leaf false) (I.tv ok Ak nk ck)) := Lib.hid ((cellsS_noT HBY3.out).it hbt (Nat.le_of_eq hsz.symm) HYI3.out)
  have HYE4 : Hid (ET ((((w3.setCell ⟨W.heap.size, 0, none⟩ (.bool ok)).setCell ⟨W.heap.size, 1, none⟩ (.slice Ak nk ck)).setCell ⟨W.heap.size, 2, none⟩ (.int .i64 zk)).setCell ⟨W.heap.size, 3, none⟩ (.slice Bk mk dk)) p.2.1.norm (E.tv zk Bk mk dk)) := Lib.hid ((cellsS_noT HBY3.out).et hbt (Nat.le_of_eq hsz.symm) HYE3.out)
  have HBY4 : Hid (Blk ((((w3.setCell ⟨W.heap.size, 0, none⟩ (.bool ok)).setCell ⟨W.heap.size, 1, none⟩ (.slice Ak nk ck)).setCell ⟨W.heap.size, 2, none⟩ (.int .i64 zk)).setCell ⟨W.heap.size, 3, none⟩ (.slice Bk mk dk)) W.heap.size 29 (cellsS [⟨ok, Ak, nk, ck, zk, Bk, mk, dk⟩])) := Lib.hid (HBY3.out.stamp ⟨ok, Ak, nk, ck, zk, Bk, mk, dk⟩)
  have HT4 : Hid (Stt ((((w3.setCell ⟨W.heap.size, 0, none⟩ (.bool ok)).setCell ⟨W.heap.size, 1, none⟩ (.slice Ak nk ck)).setCell ⟨W.heap.size, 2, none⟩ (.int .i64 zk)).setCell ⟨W.heap.size, 3, none⟩ (.slice Bk mk dk)) B g gl gs CS SS Q n) := Lib.hid (HT3.out.aside hbt hsz HBY3.out (by omega) (by omega) (by omega))
  have HBE4 : Hid (Below B W ((((w3.setCell ⟨W.heap.size, 0, none⟩ (.bool ok)).setCell ⟨W.heap.size, 1, none⟩ (.slice Ak nk ck)).setCell ⟨W.heap.size, 2, none⟩ (.int .i64 zk)).setCell ⟨W.heap.size, 3, none⟩ (.slice Bk mk dk))) := Lib.hid (stamp_below HBE3.out hB _ _ _ _)
  clear b0 b1 b2 b3 c0 c1 c2 c3 f0 f1 f2 f3 hsz hbt HT3 HYI3 HYE3 HBY3 HBK3 HBE3
  generalize (((w3.setCell ⟨W.heap.size, 0, none⟩ (.bool ok)).setCell ⟨W.heap.size, 1, none⟩ (.slice Ak nk ck)).setCell ⟨W.heap.size, 2, none⟩ (.int .i64 zk)).setCell ⟨W.heap.size, 3, none⟩ (.slice Bk mk dk) = w4 at *
  go_cut [12, 13] (fun s12 s13 wx => ∃ (g12 : Nat) (ox : Bool) (Ax : Option Addr) (nx cx : Nat) (zx : Int) (Bx : Option Addr) (mx dx : Nat), s12 = .pointer (some ⟨g12, 0, none⟩) ∧ s13 = .int .i64 0 ∧ W.heap.size < g12 ∧ Hid (Stt wx B g gl gs CS SS Q n) ∧ Hid (Blk wx g12 29 (cellsS [⟨ox, Ax, nx, cx, zx, Bx, mx, dx⟩])) ∧ Hid (IT wx i1 (I.tv ox Ax nx cx)) ∧ Hid (ET wx e1 (E.tv zx Bx mx dx)) ∧ Hid (Below B W wx))
  case first =>
    have hd : Below w4.heap.size w4 w4.drew := (Below.refl _ _).drew
    have HT9 := Lib.hid (HT4.out.next hd)
    have HBY9 := Lib.hid (HBY4.out.below hd HBY4.out.lt)
    have HYI9 := Lib.hid (I.InT.up HYI4.out hd)
    have HYE9 := Lib.hid (E.InP.up HYE4.out hd)
    have HBE9 := Lib.hid (HBE4.out.trans (hd.mono (Nat.le_trans hB HBE4.out.size)))
    have hsw : W.heap.size < w4.drew.heap.size := HBY9.out.lt
    have HX9 : Hid (CX [(g, 0, .slice (some ⟨gl, 0, none⟩) lq lc), (gl, a * 4, .bool oa), (gl, a * 4 + 1, .slice Aa na ca), (gl, a * 4 + 2, .int .i64 za), (gl, a * 4 + 3, .slice Ba ma da), (W.heap.size, 0, .bool ok), (W.heap.size, 1, .slice Ak nk ck), (W.heap.size, 2, .int .i64 zk), (W.heap.size, 3, .slice Bk mk dk)] w4.drew) := Lib.hid (by
      obtain ⟨c0, _, _⟩ := HT9.out.c3
      rw [HLQ.out, HLC.out] at c0
      obtain ⟨d0, d1, d2, d3⟩ := HT9.out.c4 HS.out
      obtain ⟨b0, b1, b2, b3⟩ := HBY9.out.c4
      intro f hf
      simp only [List.mem_cons, List.not_mem_nil, or_false] at hf
      rcases hf with rfl | rfl | rfl | rfl | rfl | rfl | rfl | rfl | rfl
      · exact c0
      · exact d0
      · exact d1
      · exact d2
      · exact d3
      · exact b0
      · exact b1
      · exact b2
      · exact b3)
    have HAI9 : Hid (IT w4.drew q.1 (I.tv oa Aa na ca) ∧ ET w4.drew q.2.1 (E.tv za Ba ma da)) := Lib.hid (by
      obtain ⟨s0, k0, k1, k2⟩ := HT9.out.el a q HQ.out
      rw [HS.out] at k0
      injection k0 with k0
      subst k0
      exact ⟨k1, k2⟩)
    refine wp_region_held_drew (S := fun Wv => CX [(g, 0, .slice (some ⟨gl, 0, none⟩) lq lc), (gl, a * 4, .bool oa), (gl, a * 4 + 1, .slice Aa na ca), (gl, a * 4 + 2, .int .i64 za), (gl, a * 4 + 3, .slice Ba ma da), (W.heap.size, 0, .bool ok), (W.heap.size, 1, .slice Ak nk ck), (W.heap.size, 2, .int .i64 zk), (W.heap.size, 3, .slice Bk mk dk)] Wv) (by kernel_rfl) HX9.out (fun hS => ?_)
    clear hd HT4 HBY4 HYI4 HYE4 HBE4
    generalize w4.drew = wd at *
    refine wpAnyH_take (i := 0) (v := ?_) rfl (by kernel_rfl) (by kernel_rfl) (by kernel_rfl) (fun _ _ _ h => h) (Yields.yieldsIf (Or.inl ⟨by kernel_rfl, ?_⟩)) hS ?_
    rotate_left
    · first | (intro w; go_simp; done) | (intro w; go_simp; with_reducible rfl)
    refine wpAnyH_take (i := 1) (v := ?_) rfl (by kernel_rfl) (by kernel_rfl) (by kernel_rfl) (fun _ _ _ h => h) (Yields.yieldsIf (Or.inl ⟨by kernel_rfl, ?_⟩)) hS ?_
    rotate_left
    · first | (intro w; go_simp; done) | (intro w; go_simp; with_reducible rfl)
    refine wpAnyH_take (i := 2) (v := ?_) rfl (by kernel_rfl) (by kernel_rfl) (by kernel_rfl) (fun _ _ _ h => h) (Yields.yieldsIf (Or.inl ⟨by kernel_rfl, ?_⟩)) hS ?_
    rotate_left
    · first | (intro w; go_simp; done) | (intro w; go_simp; with_reducible rfl)
    refine wpAnyH_take (i := 3) (v := ?_) rfl (by kernel_rfl) (by kernel_rfl) (by kernel_rfl) (fun _ _ _ h => h) (Or.inl ⟨by kernel_rfl, fun W hW => ?_⟩) hS ?_
    rotate_left
    · have f := hW
      simp only [CX, List.mem_cons, List.not_mem_nil, or_false, forall_eq_or_imp, forall_eq] at f
      obtain ⟨p0, p1, p2, p3, p4, p5, p6, p7, p8⟩ := f
      first | (go_simp; done) | (go_simp; with_reducible rfl)
    refine wpAnyH_take (i := 4) (v := ?_) rfl (by kernel_rfl) (by kernel_rfl) (by kernel_rfl) (fun _ _ _ h => h) (Yields.yieldsIf (Or.inl ⟨by kernel_rfl, ?_⟩)) hS ?_
    rotate_left
    · first | (intro w; go_simp; done) | (intro w; go_simp; with_reducible rfl)
    refine wpAnyH_take (i := 5) (v := ?_) rfl (by kernel_rfl) (by kernel_rfl) (by kernel_rfl) (fun _ _ _ h => h) (Yields.yieldsIf (Or.inl ⟨by kernel_rfl, ?_⟩)) hS ?_
    rotate_left
    · first | (intro w; go_simp; done) | (intro w; go_simp; with_reducible rfl)
    refine wpAnyH_take (i := 6) (v := ?_) rfl (by kernel_rfl) (by kernel_rfl) (by kernel_rfl) (fun _ _ _ h => h) (Or.inl ⟨by kernel_rfl, fun W hW => ?_⟩) hS ?_
    rotate_left
    · have f := hW
      simp only [CX, List.mem_cons, List.not_mem_nil, or_false, forall_eq_or_imp, forall_eq] at f
      obtain ⟨p0, p1, p2, p3, p4, p5, p6, p7, p8⟩ := f
      first | (go_simp; done) | (go_simp; with_reducible rfl)
    refine wpAnyH_take (i := 7) (v := ?_) rfl (by kernel_rfl) (by kernel_rfl) (by kernel_rfl) (fun _ _ _ h => h) (Or.inl ⟨by kernel_rfl, fun W hW => ?_⟩) hS ?_
    rotate_left
    · have f := hW
      simp only [CX, List.mem_cons, List.not_mem_nil, or_false, forall_eq_or_imp, forall_eq] at f
      obtain ⟨p0, p1, p2, p3, p4, p5, p6, p7, p8⟩ := f
      first | (go_simp; done) | (go_simp; with_reducible rfl)
    try go_simp
    refine wpAnyH_ready (rs := [8, 12]) (by kernel_rfl) (by simp) ?_
    refine AllReadyH.cons rfl (fun K hK => ?_) (AllReadyH.cons rfl (fun K hK => ?_) AllReadyH.nil)
    · have hbW1 : Below wd.heap.size wd wd := (Below.refl wd.heap.size wd)
      have hcall := join_any (sin_of (s := ⟨oa, Aa, na, ca, za, Ba, ma, da⟩) (I.InT.up HAI9.out.1 hbW1) (E.InP.up HAI9.out.2 hbW1)).1.arg (sin_of (s := ⟨ok, Ak, nk, ck, zk, Bk, mk, dk⟩) (I.InT.up HYI9.out hbW1) (E.InP.up HYE9.out hbW1)).1.arg
      rw [HEV.out] at hcall
      unfold Sc.v sv at hcall
      simp only at hcall
      go_simp
      go_wp2_with fail
      refine hcall.mono ?_
      rintro e wj1 ⟨vx, rfl, hx, hbx⟩
      simp only at hx ⊢
      obtain ⟨ox, Ax, nx, cx, Bx, mx, dx, rfl, hxi, hxe⟩ := hx
      obtain ⟨zx, hzx⟩ : ∃ z, e1.N = z := ⟨_, rfl⟩
      rw [hzx] at hxe ⊢
      have HXI1 := Lib.hid hxi
      have HXE1 := Lib.hid hxe
      have HBW1 : Hid (Below wd.heap.size wd wj1) := Lib.hid (hbW1.trans (hbx.mono hbW1.size))
      clear hcall hxi hxe hbx hzx hbW1
      unfold sv
      refine hK.out _ _ (HX9.out.next HBW1.out) (fun hS => ?_)
      clear hK K
      refine wpAnyH_take (i := 9) (v := ?_) rfl (by kernel_rfl) (by kernel_rfl) (by kernel_rfl) (fun _ _ _ h => h) (Yields.yieldsIf (Or.inl ⟨by kernel_rfl, ?_⟩)) hS ?_
      rotate_left
      · first | (intro w; go_simp; done) | (intro w; go_simp; with_reducible rfl)
      refine wpAnyH_take (i := 10) (v := ?_) rfl (by kernel_rfl) (by kernel_rfl) (by kernel_rfl) (fun _ _ _ h => h) (Yields.yieldsIf (Or.inl ⟨by kernel_rfl, ?_⟩)) hS ?_
      rotate_left
      · first | (intro w; go_simp; done) | (intro w; go_simp; with_reducible rfl)
      refine wpAnyH_take (i := 11) (v := ?_) rfl (by kernel_rfl) (by kernel_rfl) (by kernel_rfl) (fun _ _ _ h => h) (Yields.yieldsIf (Or.inl ⟨by kernel_rfl, ?_⟩)) hS ?_
      rotate_left
      · first | (intro w; go_simp; done) | (intro w; go_simp; with_reducible rfl)
      try go_simp
      refine wpAnyH_ready (rs := [12]) (by kernel_rfl) (by simp) ?_
      refine AllReadyH.cons rfl (fun K hK => ?_) AllReadyH.nil
      go_simp
      go_wp2
      have hba2 : Below wj1.heap.size wj1 (wj1.alloc (.cells #[.bool false, .slice none 0 0, .int .i64 0, .slice none 0 0] 29)) := (Below.refl _ _).alloc (Nat.le_refl _) _
      have HBW2 : Hid (Below wd.heap.size wd (wj1.alloc (.cells #[.bool false, .slice none 0 0, .int .i64 0, .slice none 0 0] 29))) := Lib.hid ((HBW1.out).trans (hba2.mono (HBW1.out).size))
      have HBB2 : Hid (Blk (wj1.alloc (.cells #[.bool false, .slice none 0 0, .int .i64 0, .slice none 0 0] 29)) wj1.heap.size 29 (cellsS [Sc.zero])) := Lib.hid (Blk.new wj1 29 (cellsS [Sc.zero]))
      have HXI2 := Lib.hid (I.InT.up HXI1.out hba2)
      have HXE2 := Lib.hid (E.InP.up HXE1.out hba2)
      clear hba2
      refine hK.out _ _ (HX9.out.next HBW2.out) (fun hS => ?_)
      clear hK K
      generalize wj1.alloc (.cells #[.bool false, .slice none 0 0, .int .i64 0, .slice none 0 0] 29) = wa2 at *
      try go_simp
      refine wpAnyH_ready (rs := [13]) (by kernel_rfl) (by simp) ?_
      refine AllReadyH.cons rfl (fun K hK => ?_) AllReadyH.nil
      obtain ⟨b0, b1, b2, b3⟩ := HBB2.out.c4
      have f0 := HBB2.out.frozen 0
      have f1 := HBB2.out.frozen 1
      have f2 := HBB2.out.frozen 2
      have f3 := HBB2.out.frozen 3
      have hg12 : wd.heap.size ≤ wj1.heap.size := HBW1.out.size
      go_simp
      go_wp2
      have hsz : ((((wa2.setCell ⟨wj1.heap.size, 0, none⟩ (.bool ox)).setCell ⟨wj1.heap.size, 1, none⟩ (.slice Ax nx cx)).setCell ⟨wj1.heap.size, 2, none⟩ (.int .i64 zx)).setCell ⟨wj1.heap.size, 3, none⟩ (.slice Bx mx dx)).heap.size = wa2.heap.size := stamp_size _ _ _ _ _ _
      have hbt : But wa2 ((((wa2.setCell ⟨wj1.heap.size, 0, none⟩ (.bool ox)).setCell ⟨wj1.heap.size, 1, none⟩ (.slice Ax nx cx)).setCell ⟨wj1.heap.size, 2, none⟩ (.int .i64 zx)).setCell ⟨wj1.heap.size, 3, none⟩ (.slice Bx mx dx)) wj1.heap.size := stamp_but _ _ _ _ _ _
      have HXIE : Hid (IT ((((wa2.setCell ⟨wj1.heap.size, 0, none⟩ (.bool ox)).setCell ⟨wj1.heap.size, 1, none⟩ (.slice Ax nx cx)).setCell ⟨wj1.heap.size, 2, none⟩ (.int .i64 zx)).setCell ⟨wj1.heap.size, 3, none⟩ (.slice Bx mx dx)) i1 (I.tv ox Ax nx cx)) := Lib.hid ((cellsS_noT HBB2.out).it hbt (Nat.le_of_eq hsz.symm) HXI2.out)
      have HXEE : Hid (ET ((((wa2.setCell ⟨wj1.heap.size, 0, none⟩ (.bool ox)).setCell ⟨wj1.heap.size, 1, none⟩ (.slice Ax nx cx)).setCell ⟨wj1.heap.size, 2, none⟩ (.int .i64 zx)).setCell ⟨wj1.heap.size, 3, none⟩ (.slice Bx mx dx)) e1 (E.tv zx Bx mx dx)) := Lib.hid ((cellsS_noT HBB2.out).et hbt (Nat.le_of_eq hsz.symm) HXE2.out)
      have HBBE : Hid (Blk ((((wa2.setCell ⟨wj1.heap.size, 0, none⟩ (.bool ox)).setCell ⟨wj1.heap.size, 1, none⟩ (.slice Ax nx cx)).setCell ⟨wj1.heap.size, 2, none⟩ (.int .i64 zx)).setCell ⟨wj1.heap.size, 3, none⟩ (.slice Bx mx dx)) wj1.heap.size 29 (cellsS [⟨ox, Ax, nx, cx, zx, Bx, mx, dx⟩])) := Lib.hid (HBB2.out.stamp ⟨ox, Ax, nx, cx, zx, Bx, mx, dx⟩)
      have hbe : Below wd.heap.size wd ((((wa2.setCell ⟨wj1.heap.size, 0, none⟩ (.bool ox)).setCell ⟨wj1.heap.size, 1, none⟩ (.slice Ax nx cx)).setCell ⟨wj1.heap.size, 2, none⟩ (.int .i64 zx)).setCell ⟨wj1.heap.size, 3, none⟩ (.slice Bx mx dx)) := stamp_below HBW2.out hg12 _ _ _ _
      have HTE := Lib.hid (HT9.out.next hbe)
      have HBEE := Lib.hid (HBE9.out.trans (hbe.mono (Nat.le_trans hB HBE9.out.size)))
      have hS3 : CX [(g, 0, .slice (some ⟨gl, 0, none⟩) lq lc), (gl, a * 4, .bool oa), (gl, a * 4 + 1, .slice Aa na ca), (gl, a * 4 + 2, .int .i64 za), (gl, a * 4 + 3, .slice Ba ma da), (W.heap.size, 0, .bool ok), (W.heap.size, 1, .slice Ak nk ck), (W.heap.size, 2, .int .i64 zk), (W.heap.size, 3, .slice Bk mk dk)] _ := HX9.out.next hbe
      clear b0 b1 b2 b3 f0 f1 f2 f3 hsz hbt hbe
      refine hK.out _ _ hS3 (fun hS => ?_)
      clear hK K hS3
      generalize (((wa2.setCell ⟨wj1.heap.size, 0, none⟩ (.bool ox)).setCell ⟨wj1.heap.size, 1, none⟩ (.slice Ax nx cx)).setCell ⟨wj1.heap.size, 2, none⟩ (.int .i64 zx)).setCell ⟨wj1.heap.size, 3, none⟩ (.slice Bx mx dx) = wE at *
      refine wpAnyH_take (i := 14) (v := ?_) rfl (by kernel_rfl) (by kernel_rfl) (by kernel_rfl) (fun _ _ _ h => h) (Yields.yieldsIf (Or.inl ⟨by kernel_rfl, ?_⟩)) hS ?_
      rotate_left
      · first | (intro w; go_simp; done) | (intro w; go_simp; with_reducible rfl)
      try go_simp
      refine wpAnyH_done (by kernel_rfl) ?_ _
      go_wp2_with fail
      go_meet
      exact ⟨wj1.heap.size, ox, Ax, nx, cx, zx, Bx, mx, dx, rfl, rfl, by omega, HTE, HBBE, HXIE, HXEE, HBEE⟩
    · go_simp
      go_wp2
      have hba1 : Below wd.heap.size wd (wd.alloc (.cells #[.bool false, .slice none 0 0, .int .i64 0, .slice none 0 0] 29)) := (Below.refl _ _).alloc (Nat.le_refl _) _
      have HBW1 : Hid (Below wd.heap.size wd (wd.alloc (.cells #[.bool false, .slice none 0 0, .int .i64 0, .slice none 0 0] 29))) := Lib.hid (((Below.refl wd.heap.size wd)).trans (hba1.mono ((Below.refl wd.heap.size wd)).size))
      have HBB1 : Hid (Blk (wd.alloc (.cells #[.bool false, .slice none 0 0, .int .i64 0, .slice none 0 0] 29)) wd.heap.size 29 (cellsS [Sc.zero])) := Lib.hid (Blk.new wd 29 (cellsS [Sc.zero]))
      clear hba1
      refine hK.out _ _ (HX9.out.next HBW1.out) (fun hS => ?_)
      clear hK K
      generalize wd.alloc (.cells #[.bool false, .slice none 0 0, .int .i64 0, .slice none 0 0] 29) = wa1 at *
      try go_simp
      refine wpAnyH_ready (rs := [8]) (by kernel_rfl) (by simp) ?_
      refine AllReadyH.cons rfl (fun K hK => ?_) AllReadyH.nil
      have hbW2 : Below wd.heap.size wd wa1 := HBW1.out
      have hcall := join_any (sin_of (s := ⟨oa, Aa, na, ca, za, Ba, ma, da⟩) (I.InT.up HAI9.out.1 hbW2) (E.InP.up HAI9.out.2 hbW2)).1.arg (sin_of (s := ⟨ok, Ak, nk, ck, zk, Bk, mk, dk⟩) (I.InT.up HYI9.out hbW2) (E.InP.up HYE9.out hbW2)).1.arg
      rw [HEV.out] at hcall
      unfold Sc.v sv at hcall
      simp only at hcall
      go_simp
      go_wp2_with fail
      refine hcall.mono ?_
      rintro e wj2 ⟨vx, rfl, hx, hbx⟩
      simp only at hx ⊢
      obtain ⟨ox, Ax, nx, cx, Bx, mx, dx, rfl, hxi, hxe⟩ := hx
      obtain ⟨zx, hzx⟩ : ∃ z, e1.N = z := ⟨_, rfl⟩
      rw [hzx] at hxe ⊢
      have HXI2 := Lib.hid hxi
      have HXE2 := Lib.hid hxe
      have HBW2 : Hid (Below wd.heap.size wd wj2) := Lib.hid (hbW2.trans (hbx.mono hbW2.size))
      have HBB2 : Hid (Blk wj2 wd.heap.size 29 (cellsS [Sc.zero])) := Lib.hid (HBB1.out.below hbx HBB1.out.lt)
      clear hcall hxi hxe hbx hzx hbW2
      unfold sv
      refine hK.out _ _ (HX9.out.next HBW2.out) (fun hS => ?_)
      clear hK K
      refine wpAnyH_take (i := 9) (v := ?_) rfl (by kernel_rfl) (by kernel_rfl) (by kernel_rfl) (fun _ _ _ h => h) (Yields.yieldsIf (Or.inl ⟨by kernel_rfl, ?_⟩)) hS ?_
      rotate_left
      · first | (intro w; go_simp; done) | (intro w; go_simp; with_reducible rfl)
      refine wpAnyH_take (i := 10) (v := ?_) rfl (by kernel_rfl) (by kernel_rfl) (by kernel_rfl) (fun _ _ _ h => h) (Yields.yieldsIf (Or.inl ⟨by kernel_rfl, ?_⟩)) hS ?_
      rotate_left
      · first | (intro w; go_simp; done) | (intro w; go_simp; with_reducible rfl)
      refine wpAnyH_take (i := 11) (v := ?_) rfl (by kernel_rfl) (by kernel_rfl) (by kernel_rfl) (fun _ _ _ h => h) (Yields.yieldsIf (Or.inl ⟨by kernel_rfl, ?_⟩)) hS ?_
      rotate_left
      · first | (intro w; go_simp; done) | (intro w; go_simp; with_reducible rfl)
      try go_simp
      refine wpAnyH_ready (rs := [13]) (by kernel_rfl) (by simp) ?_
      refine AllReadyH.cons rfl (fun K hK => ?_) AllReadyH.nil
      obtain ⟨b0, b1, b2, b3⟩ := HBB2.out.c4
      have f0 := HBB2.out.frozen 0
      have f1 := HBB2.out.frozen 1
      have f2 := HBB2.out.frozen 2
      have f3 := HBB2.out.frozen 3
      have hg12 : wd.heap.size ≤ wd.heap.size := Nat.le_refl _
      go_simp
      go_wp2
      have hsz : ((((wj2.setCell ⟨wd.heap.size, 0, none⟩ (.bool ox)).setCell ⟨wd.heap.size, 1, none⟩ (.slice Ax nx cx)).setCell ⟨wd.heap.size, 2, none⟩ (.int .i64 zx)).setCell ⟨wd.heap.size, 3, none⟩ (.slice Bx mx dx)).heap.size = wj2.heap.size := stamp_size _ _ _ _ _ _
      have hbt : But wj2 ((((wj2.setCell ⟨wd.heap.size, 0, none⟩ (.bool ox)).setCell ⟨wd.heap.size, 1, none⟩ (.slice Ax nx cx)).setCell ⟨wd.heap.size, 2, none⟩ (.int .i64 zx)).setCell ⟨wd.heap.size, 3, none⟩ (.slice Bx mx dx)) wd.heap.size := stamp_but _ _ _ _ _ _
      have HXIE : Hid (IT ((((wj2.setCell ⟨wd.heap.size, 0, none⟩ (.bool ox)).setCell ⟨wd.heap.size, 1, none⟩ (.slice Ax nx cx)).setCell ⟨wd.heap.size, 2, none⟩ (.int .i64 zx)).setCell ⟨wd.heap.size, 3, none⟩ (.slice Bx mx dx)) i1 (I.tv ox Ax nx cx)) := Lib.hid ((cellsS_noT HBB2.out).it hbt (Nat.le_of_eq hsz.symm) HXI2.out)
      have HXEE : Hid (ET ((((wj2.setCell ⟨wd.heap.size, 0, none⟩ (.bool ox)).setCell ⟨wd.heap.size, 1, none⟩ (.slice Ax nx cx)).setCell ⟨wd.heap.size, 2, none⟩ (.int .i64 zx)).setCell ⟨wd.heap.size, 3, none⟩ (.slice Bx mx dx)) e1 (E.tv zx Bx mx dx)) := Lib.hid ((cellsS_noT HBB2.out).et hbt (Nat.le_of_eq hsz.symm) HXE2.out)
      have HBBE : Hid (Blk ((((wj2.setCell ⟨wd.heap.size, 0, none⟩ (.bool ox)).setCell ⟨wd.heap.size, 1, none⟩ (.slice Ax nx cx)).setCell ⟨wd.heap.size, 2, none⟩ (.int .i64 zx)).setCell ⟨wd.heap.size, 3, none⟩ (.slice Bx mx dx)) wd.heap.size 29 (cellsS [⟨ox, Ax, nx, cx, zx, Bx, mx, dx⟩])) := Lib.hid (HBB2.out.stamp ⟨ox, Ax, nx, cx, zx, Bx, mx, dx⟩)
      have hbe : Below wd.heap.size wd ((((wj2.setCell ⟨wd.heap.size, 0, none⟩ (.bool ox)).setCell ⟨wd.heap.size, 1, none⟩ (.slice Ax nx cx)).setCell ⟨wd.heap.size, 2, none⟩ (.int .i64 zx)).setCell ⟨wd.heap.size, 3, none⟩ (.slice Bx mx dx)) := stamp_below HBW2.out hg12 _ _ _ _
      have HTE := Lib.hid (HT9.out.next hbe)
      have HBEE := Lib.hid (HBE9.out.trans (hbe.mono (Nat.le_trans hB HBE9.out.size)))
      have hS3 : CX [(g, 0, .slice (some ⟨gl, 0, none⟩) lq lc), (gl, a * 4, .bool oa), (gl, a * 4 + 1, .slice Aa na ca), (gl, a * 4 + 2, .int .i64 za), (gl, a * 4 + 3, .slice Ba ma da), (W.heap.size, 0, .bool ok), (W.heap.size, 1, .slice Ak nk ck), (W.heap.size, 2, .int .i64 zk), (W.heap.size, 3, .slice Bk mk dk)] _ := HX9.out.next hbe
      clear b0 b1 b2 b3 f0 f1 f2 f3 hsz hbt hbe
      refine hK.out _ _ hS3 (fun hS => ?_)
      clear hK K hS3
      generalize (((wj2.setCell ⟨wd.heap.size, 0, none⟩ (.bool ox)).setCell ⟨wd.heap.size, 1, none⟩ (.slice Ax nx cx)).setCell ⟨wd.heap.size, 2, none⟩ (.int .i64 zx)).setCell ⟨wd.heap.size, 3, none⟩ (.slice Bx mx dx) = wE at *
      refine wpAnyH_take (i := 14) (v := ?_) rfl (by kernel_rfl) (by kernel_rfl) (by kernel_rfl) (fun _ _ _ h => h) (Yields.yieldsIf (Or.inl ⟨by kernel_rfl, ?_⟩)) hS ?_
      rotate_left
      · first | (intro w; go_simp; done) | (intro w; go_simp; with_reducible rfl)
      try go_simp
      refine wpAnyH_done (by kernel_rfl) ?_ _
      go_wp2_with fail
      go_meet
      exact ⟨wd.heap.size, ox, Ax, nx, cx, zx, Bx, mx, dx, rfl, rfl, by omega, HTE, HBBE, HXIE, HXEE, HBEE⟩
  case rest =>
    obtain ⟨g12, ox, Ax, nx, cx, zx, Bx, mx, dx, rfl, rfl, hg12, HT10, HBX10, HXI10, HXE10, HBE10⟩ := hcut
    clear HT4 HBY4 HYI4 HYE4 HBE4
    go_upto_region 12 with fail
    have hd : Below wc.heap.size wc wc.drew := (Below.refl _ _).drew
    have HT11 := Lib.hid (HT10.out.next hd)
    have HXI11 := Lib.hid (I.InT.up HXI10.out hd)
    have HXE11 := Lib.hid (E.InP.up HXE10.out hd)
    have HBE11 := Lib.hid (HBE10.out.trans (hd.mono (Nat.le_trans hB HBE10.out.size)))
    have HX11 : Hid (CX [(g, 0, .slice (some ⟨gl, 0, none⟩) lq lc), (g12, 0, .bool ox), (g12, 1, .slice Ax nx cx), (g12, 2, .int .i64 zx), (g12, 3, .slice Bx mx dx)] wc.drew) := Lib.hid (by
      obtain ⟨c0, _, _⟩ := HT11.out.c3
      rw [HLQ.out, HLC.out] at c0
      obtain ⟨b0, b1, b2, b3⟩ := (HBX10.out.below hd HBX10.out.lt).c4
      intro f hf
      simp only [List.mem_cons, List.not_mem_nil, or_false] at hf
      rcases hf with rfl | rfl | rfl | rfl | rfl
      · exact c0
      · exact b0
      · exact b1
      · exact b2
      · exact b3)
    refine wp_region_held_drew (S := fun W => CX [(g, 0, .slice (some ⟨gl, 0, none⟩) lq lc), (g12, 0, .bool ox), (g12, 1, .slice Ax nx cx), (g12, 2, .int .i64 zx), (g12, 3, .slice Bx mx dx)] W) (by kernel_rfl) HX11.out (fun hS => ?_)
    clear hd HT10 HBX10 HXI10 HXE10 HBE10
    generalize wc.drew = wd at *
    refine wpAnyH_take (i := 0) (v := ?_) rfl (by kernel_rfl) (by kernel_rfl) (by kernel_rfl) (fun _ _ _ h => h) (Yields.yieldsIf (Or.inl ⟨by kernel_rfl, ?_⟩)) hS ?_
    rotate_left
    · first | (intro w; go_simp; done) | (intro w; go_simp; with_reducible rfl)
    refine wpAnyH_take (i := 1) (v := ?_) rfl (by kernel_rfl) (by kernel_rfl) (by kernel_rfl) (fun _ _ _ h => h) (Yields.yieldsIf (Or.inl ⟨by kernel_rfl, ?_⟩)) hS ?_
    rotate_left
    · first | (intro w; go_simp; done) | (intro w; go_simp; with_reducible rfl)
    refine wpAnyH_take (i := 2) (v := ?_) rfl (by kernel_rfl) (by kernel_rfl) (by kernel_rfl) (fun _ _ _ h => h) (Yields.yieldsIf (Or.inl ⟨by kernel_rfl, ?_⟩)) hS ?_
    rotate_left
    · first | (intro w; go_simp; done) | (intro w; go_simp; with_reducible rfl)
    refine wpAnyH_take (i := 3) (v := ?_) rfl (by kernel_rfl) (by kernel_rfl) (by kernel_rfl) (fun _ _ _ h => h) (Or.inl ⟨by kernel_rfl, fun W hW => ?_⟩) hS ?_
    rotate_left
    · have f := hW
      simp only [CX, List.mem_cons, List.not_mem_nil, or_false, forall_eq_or_imp, forall_eq] at f
      obtain ⟨p0, p1, p2, p3, p4⟩ := f
      first | (go_simp; done) | (go_simp; with_reducible rfl)
    refine wpAnyH_take (i := 4) (v := ?_) rfl (by kernel_rfl) (by kernel_rfl) (by kernel_rfl) (fun _ _ _ h => h) (Yields.yieldsIf (Or.inl ⟨by kernel_rfl, ?_⟩)) hS ?_
    rotate_left
    · first | (intro w; go_simp; done) | (intro w; go_simp; with_reducible rfl)
    refine wpAnyH_take (i := 5) (v := ?_) rfl (by kernel_rfl) (by kernel_rfl) (by kernel_rfl) (fun _ _ _ h => h) (Or.inl ⟨by kernel_rfl, fun W hW => ?_⟩) hS ?_
    rotate_left
    · have f := hW
      simp only [CX, List.mem_cons, List.not_mem_nil, or_false, forall_eq_or_imp, forall_eq] at f
      obtain ⟨p0, p1, p2, p3, p4⟩ := f
      first | (go_simp; done) | (go_simp; with_reducible rfl)
    refine wpAnyH_take (i := 6) (v := ?_) rfl (by kernel_rfl) (by kernel_rfl) (by kernel_rfl) (fun _ _ _ h => h) (Yields.yieldsIf (Or.inl ⟨by kernel_rfl, ?_⟩)) hS ?_
    rotate_left
    · first | (intro w; go_simp; done) | (intro w; go_simp; with_reducible rfl)
    try go_simp
    refine wpAnyH_ready (rs := [7]) (by kernel_rfl) (by simp) ?_
    refine AllReadyH.cons rfl (fun K hK => ?_) AllReadyH.nil
    obtain ⟨d0, d1, d2, d3⟩ := HT11.out.c4 HS.out
    have f0 := HT11.out.bl.frozen (a * 4)
    have f1 := HT11.out.bl.frozen (a * 4 + 1)
    have f2 := HT11.out.bl.frozen (a * 4 + 2)
    have f3 := HT11.out.bl.frozen (a * 4 + 3)
    go_simp
    go_wp2
    refine hK.out _ _ (HX11.out.but (put4_but wd gl a ⟨ox, Ax, nx, cx, zx, Bx, mx, dx⟩) (by simp only [List.mem_cons, List.not_mem_nil, or_false, forall_eq_or_imp, forall_eq]; omega)) (fun hS => ?_)
    clear hK K
    have HT12 : Hid (Stt ((((wd.setCell ⟨gl, a * 4, none⟩ (.bool ox)).setCell ⟨gl, a * 4 + 1, none⟩ (.slice Ax nx cx)).setCell ⟨gl, a * 4 + 2, none⟩ (.int .i64 zx)).setCell ⟨gl, a * 4 + 3, none⟩ (.slice Bx mx dx)) B g gl gs (CS.set a ⟨ox, Ax, nx, cx, zx, Bx, mx, dx⟩) SS (Q.set a (i1, e1, q.2.2)) n) := Lib.hid (HT11.out.put HQ.out ⟨ox, Ax, nx, cx, zx, Bx, mx, dx⟩ HXI11.out HXE11.out)
    have HBE12 : Hid (Below B W ((((wd.setCell ⟨gl, a * 4, none⟩ (.bool ox)).setCell ⟨gl, a * 4 + 1, none⟩ (.slice Ax nx cx)).setCell ⟨gl, a * 4 + 2, none⟩ (.int .i64 zx)).setCell ⟨gl, a * 4 + 3, none⟩ (.slice Bx mx dx))) := Lib.hid (put4_below HBE11.out HT11.out.hB.2.1 a ⟨ox, Ax, nx, cx, zx, Bx, mx, dx⟩)
    clear HT11 HXI11 HXE11 HBE11 HX11 hS d0 d1 d2 d3 f0 f1 f2 f3
    generalize (((wd.setCell ⟨gl, a * 4, none⟩ (.bool ox)).setCell ⟨gl, a * 4 + 1, none⟩ (.slice Ax nx cx)).setCell ⟨gl, a * 4 + 2, none⟩ (.int .i64 zx)).setCell ⟨gl, a * 4 + 3, none⟩ (.slice Bx mx dx) = w12 at *
    try go_simp
    refine wpAnyH_done (by kernel_rfl) ?_ _
    go_upto_region 13 with fail
    have hd : Below w12.heap.size w12 w12.drew := (Below.refl _ _).drew
    have HT13 := Lib.hid (HT12.out.next hd)
    have HX13 : Hid (CX [(g, 1, .slice (some ⟨gs, 0, none⟩) lq ls), (gs, b, (.slice A' p.2.2.length c'))] w12.drew) := Lib.hid (by
      obtain ⟨_, c1, _⟩ := HT13.out.c3
      rw [List.length_set, HLQ.out, HLS.out] at c1
      have c2 := HT13.out.c1 HR'.out
      intro f hf
      simp only [List.mem_cons, List.not_mem_nil, or_false] at hf
      rcases hf with rfl | rfl
      · exact c1
      · exact c2)
    have HBE13 := Lib.hid (HBE12.out.trans (hd.mono (Nat.le_trans hB HBE12.out.size)))
    have HQS : Hid ((Q.set a (i1, e1, q.2.2))[a]? = some (i1, e1, q.2.2)) := Lib.hid (by rw [List.getElem?_set, if_pos rfl, if_pos HA.out])
    have HPS : Hid ((Q.set a (i1, e1, q.2.2))[b]? = some p) := Lib.hid (by rw [List.getElem?_set, if_neg hab]; exact HP.out)
    have HRK13 : Hid (RowK w12.drew ⟨A, q.2.2.length, c⟩ q.2.2) := Lib.hid (by
      obtain ⟨r, h1, h2⟩ := HT13.out.er a _ HQS.out
      rw [HR.out] at h1
      injection h1 with h1
      subst h1
      exact h2)
    have HRK13' : Hid (RowK w12.drew ⟨A', p.2.2.length, c'⟩ p.2.2) := Lib.hid (by
      obtain ⟨r, h1, h2⟩ := HT13.out.er b _ HPS.out
      rw [HR'.out] at h1
      injection h1 with h1
      subst h1
      exact h2)
    refine wp_region_held_drew (S := fun W => CX [(g, 1, .slice (some ⟨gs, 0, none⟩) lq ls), (gs, b, (.slice A' p.2.2.length c'))] W) (by kernel_rfl) HX13.out (fun hS => ?_)
    clear hd HT12 HBE12
    generalize w12.drew = wd3 at *
    refine wpAnyH_take (i := 0) (v := ?_) rfl (by kernel_rfl) (by kernel_rfl) (by kernel_rfl) (fun _ _ _ h => h) (Yields.yieldsIf (Or.inl ⟨by kernel_rfl, ?_⟩)) hS ?_
    rotate_left
    · first | (intro w; go_simp; done) | (intro w; go_simp; with_reducible rfl)
    refine wpAnyH_take (i := 1) (v := ?_) rfl (by kernel_rfl) (by kernel_rfl) (by kernel_rfl) (fun _ _ _ h => h) (Yields.yieldsIf (Or.inl ⟨by kernel_rfl, ?_⟩)) hS ?_
    rotate_left
    · first | (intro w; go_simp; done) | (intro w; go_simp; with_reducible rfl)
    refine wpAnyH_take (i := 2) (v := ?_) rfl (by kernel_rfl) (by kernel_rfl) (by kernel_rfl) (fun _ _ _ h => h) (Yields.yieldsIf (Or.inl ⟨by kernel_rfl, ?_⟩)) hS ?_
    rotate_left
    · first | (intro w; go_simp; done) | (intro w; go_simp; with_reducible rfl)
    refine wpAnyH_take (i := 3) (v := ?_) rfl (by kernel_rfl) (by kernel_rfl) (by kernel_rfl) (fun _ _ _ h => h) (Or.inl ⟨by kernel_rfl, fun W hW => ?_⟩) hS ?_
    rotate_left
    · have f := hW
      simp only [CX, List.mem_cons, List.not_mem_nil, or_false, forall_eq_or_imp, forall_eq] at f
      obtain ⟨p0, p1⟩ := f
      first | (go_simp; done) | (go_simp; with_reducible rfl)
    refine wpAnyH_take (i := 4) (v := ?_) rfl (by kernel_rfl) (by kernel_rfl) (by kernel_rfl) (fun _ _ _ h => h) (Yields.yieldsIf (Or.inl ⟨by kernel_rfl, ?_⟩)) hS ?_
    rotate_left
    · first | (intro w; go_simp; done) | (intro w; go_simp; with_reducible rfl)
    refine wpAnyH_take (i := 5) (v := ?_) rfl (by kernel_rfl) (by kernel_rfl) (by kernel_rfl) (fun _ _ _ h => h) (Yields.yieldsIf (Or.inl ⟨by kernel_rfl, ?_⟩)) hS ?_
    rotate_left
    · first | (intro w; go_simp; done) | (intro w; go_simp; with_reducible rfl)
    refine wpAnyH_take (i := 6) (v := ?_) rfl (by kernel_rfl) (by kernel_rfl) (by kernel_rfl) (fun _ _ _ h => h) (Yields.yieldsIf (Or.inl ⟨by kernel_rfl, ?_⟩)) hS ?_
    rotate_left
    · first | (intro w; go_simp; done) | (intro w; go_simp; with_reducible rfl)
    refine wpAnyH_take (i := 7) (v := ?_) rfl (by kernel_rfl) (by kernel_rfl) (by kernel_rfl) (fun _ _ _ h => h) (Yields.yieldsIf (Or.inl ⟨by kernel_rfl, ?_⟩)) hS ?_
    rotate_left
    · first | (intro w; go_simp; done) | (intro w; go_simp; with_reducible rfl)
    refine wpAnyH_take (i := 8) (v := ?_) rfl (by kernel_rfl) (by kernel_rfl) (by kernel_rfl) (fun _ _ _ h => h) (Or.inl ⟨by kernel_rfl, fun W hW => ?_⟩) hS ?_
    rotate_left
    · have f := hW
      simp only [CX, List.mem_cons, List.not_mem_nil, or_false, forall_eq_or_imp, forall_eq] at f
      obtain ⟨p0, p1⟩ := f
      first | (go_simp; done) | (go_simp; with_reducible rfl)
    refine wpAnyH_take (i := 9) (v := ?_) rfl (by kernel_rfl) (by kernel_rfl) (by kernel_rfl) (fun _ _ _ h => h) (Yields.yieldsIf (Or.inl ⟨by kernel_rfl, ?_⟩)) hS ?_
    rotate_left
    · first | (intro w; go_simp; done) | (intro w; go_simp; with_reducible rfl)
    refine wpAnyH_take (i := 10) (v := ?_) rfl (by kernel_rfl) (by kernel_rfl) (by kernel_rfl) (fun _ _ _ h => h) (Yields.yieldsIf (Or.inl ⟨by kernel_rfl, ?_⟩)) hS ?_
    rotate_left
    · first | (intro w; go_simp; done) | (intro w; go_simp; with_reducible rfl)
    refine wpAnyH_take (i := 12) (v := ?_) rfl (by kernel_rfl) (by kernel_rfl) (by kernel_rfl) (fun _ _ _ h => h) (Yields.yieldsIf (Or.inl ⟨by kernel_rfl, ?_⟩)) hS ?_
    rotate_left
    · first | (intro w; go_simp; done) | (intro w; go_simp; with_reducible rfl)
    refine wpAnyH_take (i := 13) (v := ?_) rfl (by kernel_rfl) (by kernel_rfl) (by kernel_rfl) (fun _ _ _ h => h) (Yields.yieldsIf (Or.inl ⟨by kernel_rfl, ?_⟩)) hS ?_
    rotate_left
    · first | (intro w; go_simp; done) | (intro w; go_simp; with_reducible rfl)
    refine wpAnyH_take (i := 14) (v := ?_) rfl (by kernel_rfl) (by kernel_rfl) (by kernel_rfl) (fun _ _ _ h => h) (Yields.yieldsIf (Or.inl ⟨by kernel_rfl, ?_⟩)) hS ?_
    rotate_left
    · first | (intro w; go_simp; done) | (intro w; go_simp; with_reducible rfl)
    refine wpAnyH_take (i := 15) (v := ?_) rfl (by kernel_rfl) (by kernel_rfl) (by kernel_rfl) (fun _ _ _ h => h) (Or.inl ⟨by kernel_rfl, fun W hW => ?_⟩) hS ?_
    rotate_left
    · have f := hW
      simp only [CX, List.mem_cons, List.not_mem_nil, or_false, forall_eq_or_imp, forall_eq] at f
      obtain ⟨p0, p1⟩ := f
      first | (go_simp; done) | (go_simp; with_reducible rfl)
    refine wpAnyH_take (i := 16) (v := ?_) rfl (by kernel_rfl) (by kernel_rfl) (by kernel_rfl) (fun _ _ _ h => h) (Yields.yieldsIf (Or.inl ⟨by kernel_rfl, ?_⟩)) hS ?_
    rotate_left
    · first | (intro w; go_simp; done) | (intro w; go_simp; with_reducible rfl)
    refine wpAnyH_take (i := 17) (v := ?_) rfl (by kernel_rfl) (by kernel_rfl) (by kernel_rfl) (fun _ _ _ h => h) (Yields.yieldsIf (Or.inl ⟨by kernel_rfl, ?_⟩)) hS ?_
    rotate_left
    · first | (intro w; go_simp; done) | (intro w; go_simp; with_reducible rfl)
    refine wpAnyH_take (i := 18) (v := ?_) rfl (by kernel_rfl) (by kernel_rfl) (by kernel_rfl) (fun _ _ _ h => h) (Or.inl ⟨by kernel_rfl, fun W hW => ?_⟩) hS ?_
    rotate_left
    · have f := hW
      simp only [CX, List.mem_cons, List.not_mem_nil, or_false, forall_eq_or_imp, forall_eq] at f
      obtain ⟨p0, p1⟩ := f
      first | (go_simp; done) | (go_simp; with_reducible rfl)
    try go_simp
    refine wpAnyH_ready (rs := [11]) (by kernel_rfl) (by simp) ?_
    refine AllReadyH.cons rfl (fun K hK => ?_) AllReadyH.nil
    have k1 := HT13.out.c1 HR.out
    simp only at k1
    go_simp
    have hS3 : CX [(g, 1, .slice (some ⟨gs, 0, none⟩) lq ls), (gs, b, (.slice A' p.2.2.length c'))] wd3 := HX13.out
    clear k1
    refine hK.out _ _ hS3 (fun hS => ?_)
    clear hK K hS3
    try go_simp
    refine wpAnyH_ready (rs := [19]) (by kernel_rfl) (by simp) ?_
    refine AllReadyH.cons rfl (fun K hK => ?_) AllReadyH.nil
    have hcall := both_any A A' q.2.2 p.2.2 c c' wd3 HRK13.out.rowB HRK13'.out.rowB (by have := HLL.out; omega) (by have := HLM.out; omega) HRK13.out.2.1 HRK13'.out.2.1
    obtain ⟨L2, hL2⟩ : ∃ L2, bothL q.2.2 p.2.2 = L2 := ⟨_, rfl⟩
    rw [hL2] at hcall
    have HL2 := Lib.hid hL2
    clear hL2
    go_simp
    go_wp2_with fail
    refine hcall.mono ?_
    rintro e wx ⟨rfl, hbk, hbx⟩
    have HT14 := Lib.hid (HT13.out.next hbx)
    have HBK := Lib.hid hbk
    have HX14 := Lib.hid (HX13.out.next hbx)
    have HBE14 := Lib.hid (HBE13.out.trans (hbx.mono (Nat.le_trans hB HBE13.out.size)))
    clear hcall hbk hbx HT13 HX13 HBE13 HRK13 HRK13'
    refine hK.out _ _ (HX14.out) (fun hS => ?_)
    clear hK K
    refine wpAnyH_take (i := 20) (v := ?_) rfl (by kernel_rfl) (by kernel_rfl) (by kernel_rfl) (fun _ _ _ h => h) (Yields.yieldsIf (Or.inl ⟨by kernel_rfl, ?_⟩)) hS ?_
    rotate_left
    · first | (intro w; go_simp; done) | (intro w; go_simp; with_reducible rfl)
    try go_simp
    refine wpAnyH_ready (rs := [21]) (by kernel_rfl) (by simp) ?_
    refine AllReadyH.cons rfl (fun K hK => ?_) AllReadyH.nil
    have k1 := HT14.out.c1 HR.out
    have f1 := HT14.out.bs.frozen a
    go_simp
    go_wp2
    have hS3 : CX [(g, 1, .slice (some ⟨gs, 0, none⟩) lq ls), (gs, b, (.slice A' p.2.2.length c'))] (wx.setCell ⟨gs, a, none⟩ (.slice (some ⟨wd3.heap.size, 0, none⟩) L2.length L2.length)) := by
      intro f hf
      simp only [List.mem_cons, List.not_mem_nil, or_false] at hf
      rcases hf with rfl | rfl
      · exact (set_but wx gs a (.slice (some ⟨wd3.heap.size, 0, none⟩) L2.length L2.length)).cell (by omega) (HX14.out _ (by simp))
      · exact (World.cell?_setCell_other _ _ _ _ (by intro e; injection e with _ e _; exact hab e)).trans (HX14.out _ (by simp))
    refine hK.out _ _ hS3 (fun hS => ?_)
    clear hK K hS3
    have HTE : Hid (Stt (wx.setCell ⟨gs, a, none⟩ (.slice (some ⟨wd3.heap.size, 0, none⟩) L2.length L2.length)) B g gl gs (CS.set a ⟨ox, Ax, nx, cx, zx, Bx, mx, dx⟩) (SS.set a ⟨some ⟨wd3.heap.size, 0, none⟩, L2.length, L2.length⟩) (Q.set a (i1, e1, L2)) n) := Lib.hid (by
      have h1 := HT14.out.see HQS.out ⟨some ⟨wd3.heap.size, 0, none⟩, L2.length, L2.length⟩ (l := L2) ⟨rfl, Nat.le_refl _, .inr ⟨_, rfl, HBK.out⟩⟩
      rw [List.set_set] at h1
      exact h1)
    have HBEE := Lib.hid (HBE14.out.setCell (p := ⟨gs, a, none⟩) HT14.out.hB.2.2 (.slice (some ⟨wd3.heap.size, 0, none⟩) L2.length L2.length))
    clear HT14 HBK HX14 HBE14 hS k1 f1 HQS HPS
    generalize wx.setCell ⟨gs, a, none⟩ (.slice (some ⟨wd3.heap.size, 0, none⟩) L2.length L2.length) = we at *
    try go_simp
    refine wpAnyH_done (by kernel_rfl) ?_ _
    go_wp2
    go_ret
    rw [HL2.out]
    exact ⟨rfl, ⟨gl, gs, _, _, HTE.out⟩, HBEE.out⟩
set_option maxRecDepth 100000 in
set_option maxHeartbeats 12800000 in
theorem cjoin_move {W : World} {B g gl gs n a b : Nat} {CS : List Sc} {SS : List Rw} {Q : List St3} {q p : St3} {i1 : I.Tr} {e1 : E.Tr} {x : St3} (hxl : (Q.set a (i1, e1, bothL q.2.2 p.2.2))[Q.length - 1]? = some x) (h : Stt W B g gl gs CS SS Q n) (hq : Q[a]? = some q) (hp : Q[b]? = some p) (hab : a ≠ b) (hQ : Q.length ≤ 8)
    (hev : joinS (I.fit q.1) (E.fit q.2.1) (I.fit p.1) (E.fit p.2.1) = ((i1, e1), 0)) (ll : q.2.2.length ≤ 1000) (lm : p.2.2.length ≤ 1000) (hB : B ≤ W.heap.size) : Calls Tryd.prog 40 #[.pointer (some ⟨g, 0, none⟩), .int .i64 a, .int .i64 b, .bool false] W (Done W B g (((Q.set a (i1, e1, bothL q.2.2 p.2.2)).set b x).take (Q.length - 1)) n) := by
  have ha : a < Q.length := (List.getElem?_eq_some_iff.1 hq).1
  have hb : b < Q.length := (List.getElem?_eq_some_iff.1 hp).1
  obtain ⟨⟨oa, Aa, na, ca, za, Ba, ma, da⟩, hs, hsi, hse⟩ := h.el a q hq
  obtain ⟨⟨ob, Ab, nb, cb, zb, Bb, mb, db⟩, hs', hsi', hse'⟩ := h.el b p hp
  obtain ⟨⟨A, m0, c⟩, hr, hrk⟩ := h.er a q hq
  obtain ⟨⟨A', m1, c'⟩, hr', hrk'⟩ := h.er b p hp
  obtain ⟨x1, hmc, hrow⟩ := id hrk
  obtain ⟨x2, hmc', hrow'⟩ := id hrk'
  simp only at x1 hmc x2 hmc'
  subst x1
  subst x2
  obtain ⟨c0, c1, c2⟩ := h.c3
  obtain ⟨d0, d1, d2, d3⟩ := h.c4 hs'
  have lg := h.st.lt
  have lgl := h.bl.lt
  have lgs := h.bs.lt
  have n1 : gl ≠ g := h.bl.ne h.st (by decide)
  have n2 : gs ≠ g := h.bs.ne h.st (by decide)
  have n3 : gs ≠ gl := h.bs.ne h.bl (by decide)
  have hbW : Below W.heap.size W (W.alloc (.cells #[.bool ob, .slice Ab nb cb, .int .i64 zb, .slice Bb mb db] 29)) := (Below.refl _ W).alloc (Nat.le_refl _) _
  have HT1 := Lib.hid (h.next hbW)
  have HBY1 : Hid (Blk (W.alloc (.cells #[.bool ob, .slice Ab nb cb, .int .i64 zb, .slice Bb mb db] 29)) W.heap.size 29 (cellsS [⟨ob, Ab, nb, cb, zb, Bb, mb, db⟩])) := Lib.hid (Blk.new W 29 (cellsS [⟨ob, Ab, nb, cb, zb, Bb, mb, db⟩]))
  have HYI1 := Lib.hid (I.InT.up hsi' hbW)
  have HYE1 := Lib.hid (E.InP.up hse' hbW)
  have HBE1 := Lib.hid (hbW.mono hB)
  have HS := Lib.hid hs
  have HR := Lib.hid hr
  have HR' := Lib.hid hr'
  have HQ := Lib.hid hq
  have HP := Lib.hid hp
  have HA := Lib.hid ha
  have HBB := Lib.hid hb
  have HEV := Lib.hid hev
  have HLL := Lib.hid ll
  have HLM := Lib.hid lm
  have hai : (a : Int) < (Q.length : Int) := by omega
  have hbi : (b : Int) < (Q.length : Int) := by omega
  have habi : ((a : Int) == (b : Int)) = false := beq_eq_false_iff_ne.2 (by omega)
  have hl1 : (Q.length : Int) - 1 = ((Q.length - 1 : Nat) : Int) := by omega
  have hli : ((Q.length - 1 : Nat) : Int) < (Q.length : Int) := by omega
  have hlic : ((Q.length - 1 : Nat) : Int) ≤ (CS.length : Int) := by have := h.lc; omega
  have hlis : ((Q.length - 1 : Nat) : Int) ≤ (SS.length : Int) := by have := h.ls; omega
  obtain ⟨lst, hlst⟩ : ∃ l, Q.length - 1 = l := ⟨_, rfl⟩
  rw [hlst] at hl1 hli hlic hlis
  obtain ⟨lq, hlq⟩ : ∃ l, Q.length = l := ⟨_, rfl⟩
  obtain ⟨lc, hlc⟩ : ∃ l, CS.length = l := ⟨_, rfl⟩
  obtain ⟨ls, hls⟩ : ∃ l, SS.length = l := ⟨_, rfl⟩
  rw [hlq] at hai hbi c0 c1 hl1 hli
  rw [hlc] at c0 hlic
  rw [hls] at c1 hlis
  have hlq8 : lq ≤ 8 := by omega
  have hlq2 : 2 ≤ lq := by omega
  have hlst8 : lst ≤ 8 := by omega
  have HLQ := Lib.hid hlq
  have HLC := Lib.hid hlc
  have HLS := Lib.hid hls
  have HLT := Lib.hid hlst
  have s1 : (W.alloc (.cells #[.bool ob, .slice Ab nb cb, .int .i64 zb, .slice Bb mb db] 29)).heap.size = W.heap.size + 1 := by simp
  have HXL := Lib.hid hxl
  clear h hq hp hr hr' hrk hrk' hs hs' hsi hse hsi' hse' hrow hrow' hmc hmc' hlq hlc hls hlst ha hb hev ll lm hQ hbW hxl
  simp only at d0 d1 d2 d3
  go_enter Tryd.func40, Tryd.ntmps40
  go_upto_region 9 with fail
  generalize W.alloc (.cells #[.bool ob, .slice Ab nb cb, .int .i64 zb, .slice Bb mb db] 29) = w4 at *
  clear c0 c1 c2 d0 d1 d2 d3
  have HT4 := HT1
  have HBY4 := HBY1
  have HYI4 := HYI1
  have HYE4 := HYE1
  have HBE4 := HBE1
  clear HT1 HBY1 HYI1 HYE1 HBE1
  go_cut [12, 13] (fun s12 s13 wx => ∃ (g12 : Nat) (ox : Bool) (Ax : Option Addr) (nx cx : Nat) (zx : Int) (Bx : Option Addr) (mx dx : Nat), s12 = .pointer (some ⟨g12, 0, none⟩) ∧ s13 = .int .i64 0 ∧ W.heap.size < g12 ∧ Hid (Stt wx B g gl gs CS SS Q n) ∧ Hid (Blk wx g12 29 (cellsS [⟨ox, Ax, nx, cx, zx, Bx, mx, dx⟩])) ∧ Hid (IT wx i1 (I.tv ox Ax nx cx)) ∧ Hid (ET wx e1 (E.tv zx Bx mx dx)) ∧ Hid (Below B W wx))
  case first =>
    have hd : Below w4.heap.size w4 w4.drew := (Below.refl _ _).drew
    have HT9 := Lib.hid (HT4.out.next hd)
    have HBY9 := Lib.hid (HBY4.out.below hd HBY4.out.lt)
    have HYI9 := Lib.hid (I.InT.up HYI4.out hd)
    have HYE9 := Lib.hid (E.InP.up HYE4.out hd)
    have HBE9 := Lib.hid (HBE4.out.trans (hd.mono (Nat.le_trans hB HBE4.out.size)))
    have hsw : W.heap.size < w4.drew.heap.size := HBY9.out.lt
    have HX9 : Hid (CX [(g, 0, .slice (some ⟨gl, 0, none⟩) lq lc), (gl, a * 4, .bool oa), (gl, a * 4 + 1, .slice Aa na ca), (gl, a * 4 + 2, .int .i64 za), (gl, a * 4 + 3, .slice Ba ma da), (W.heap.size, 0, .bool ob), (W.heap.size, 1, .slice Ab nb cb), (W.heap.size, 2, .int .i64 zb), (W.heap.size, 3, .slice Bb mb db)] w4.drew) := Lib.hid (by
      obtain ⟨c0, _, _⟩ := HT9.out.c3
      rw [HLQ.out, HLC.out] at c0
      obtain ⟨d0, d1, d2, d3⟩ := HT9.out.c4 HS.out
      obtain ⟨b0, b1, b2, b3⟩ := HBY9.out.c4
      intro f hf
      simp only [List.mem_cons, List.not_mem_nil, or_false] at hf
      rcases hf with rfl | rfl | rfl | rfl | rfl | rfl | rfl | rfl | rfl
      · exact c0
      · exact d0
      · exact d1
      · exact d2
      · exact d3
      · exact b0
      · exact b1
      · exact b2
      · exact b3)
    have HAI9 : Hid (IT w4.drew q.1 (I.tv oa Aa na ca) ∧ ET w4.drew q.2.1 (E.tv za Ba ma da)) := Lib.hid (by
      obtain ⟨s0, k0, k1, k2⟩ := HT9.out.el a q HQ.out
      rw [HS.out] at k0
      injection k0 with k0
      subst k0
      exact ⟨k1, k2⟩)
    refine wp_region_held_drew (S := fun Wv => CX [(g, 0, .slice (some ⟨gl, 0, none⟩) lq lc), (gl, a * 4, .bool oa), (gl, a * 4 + 1, .slice Aa na ca), (gl, a * 4 + 2, .int .i64 za), (gl, a * 4 + 3, .slice Ba ma da), (W.heap.size, 0, .bool ob), (W.heap.size, 1, .slice Ab nb cb), (W.heap.size, 2, .int .i64 zb), (W.heap.size, 3, .slice Bb mb db)] Wv) (by kernel_rfl) HX9.out (fun hS => ?_)
    clear hd HT4 HBY4 HYI4 HYE4 HBE4
    generalize w4.drew = wd at *
    refine wpAnyH_take (i := 0) (v := ?_) rfl (by kernel_rfl) (by kernel_rfl) (by kernel_rfl) (fun _ _ _ h => h) (Yields.yieldsIf (Or.inl ⟨by kernel_rfl, ?_⟩)) hS ?_
    rotate_left
    · first | (intro w; go_simp; done) | (intro w; go_simp; with_reducible rfl)
    refine wpAnyH_take (i := 1) (v := ?_) rfl (by kernel_rfl) (by kernel_rfl) (by kernel_rfl) (fun _ _ _ h => h) (Yields.yieldsIf (Or.inl ⟨by kernel_rfl, ?_⟩)) hS ?_
    rotate_left
    · first | (intro w; go_simp; done) | (intro w; go_simp; with_reducible rfl)
    refine wpAnyH_take (i := 2) (v := ?_) rfl (by kernel_rfl) (by kernel_rfl) (by kernel_rfl) (fun _ _ _ h => h) (Yields.yieldsIf (Or.inl ⟨by kernel_rfl, ?_⟩)) hS ?_
    rotate_left
    · first | (intro w; go_simp; done) | (intro w; go_simp; with_reducible rfl)
    refine wpAnyH_take (i := 3) (v := ?_) rfl (by kernel_rfl) (by kernel_rfl) (by kernel_rfl) (fun _ _ _ h => h) (Or.inl ⟨by kernel_rfl, fun W hW => ?_⟩) hS ?_
    rotate_left
    · have f := hW
      simp only [CX, List.mem_cons, List.not_mem_nil, or_false, forall_eq_or_imp, forall_eq] at f
      obtain ⟨p0, p1, p2, p3, p4, p5, p6, p7, p8⟩ := f
      first | (go_simp; done) | (go_simp; with_reducible rfl)
    refine wpAnyH_take (i := 4) (v := ?_) rfl (by kernel_rfl) (by kernel_rfl) (by kernel_rfl) (fun _ _ _ h => h) (Yields.yieldsIf (Or.inl ⟨by kernel_rfl, ?_⟩)) hS ?_
    rotate_left
    · first | (intro w; go_simp; done) | (intro w; go_simp; with_reducible rfl)
    refine wpAnyH_take (i := 5) (v := ?_) rfl (by kernel_rfl) (by kernel_rfl) (by kernel_rfl) (fun _ _ _ h => h) (Yields.yieldsIf (Or.inl ⟨by kernel_rfl, ?_⟩)) hS ?_
    rotate_left
    · first | (intro w; go_simp; done) | (intro w; go_simp; with_reducible rfl)
    refine wpAnyH_take (i := 6) (v := ?_) rfl (by kernel_rfl) (by kernel_rfl) (by kernel_rfl) (fun _ _ _ h => h) (Or.inl ⟨by kernel_rfl, fun W hW => ?_⟩) hS ?_
    rotate_left
    · have f := hW
      simp only [CX, List.mem_cons, List.not_mem_nil, or_false, forall_eq_or_imp, forall_eq] at f
      obtain ⟨p0, p1, p2, p3, p4, p5, p6, p7, p8⟩ := f
      first | (go_simp; done) | (go_simp; with_reducible rfl)
    refine wpAnyH_take (i := 7) (v := ?_) rfl (by kernel_rfl) (by kernel_rfl) (by kernel_rfl) (fun _ _ _ h => h) (Or.inl ⟨by kernel_rfl, fun W hW => ?_⟩) hS ?_
    rotate_left
    · have f := hW
      simp only [CX, List.mem_cons, List.not_mem_nil, or_false, forall_eq_or_imp, forall_eq] at f
      obtain ⟨p0, p1, p2, p3, p4, p5, p6, p7, p8⟩ := f
      first | (go_simp; done) | (go_simp; with_reducible rfl)
    try go_simp
    refine wpAnyH_ready (rs := [8, 12]) (by kernel_rfl) (by simp) ?_
    refine AllReadyH.cons rfl (fun K hK => ?_) (AllReadyH.cons rfl (fun K hK => ?_) AllReadyH.nil)
    · have hbW1 : Below wd.heap.size wd wd := (Below.refl wd.heap.size wd)
      have hcall := join_any (sin_of (s := ⟨oa, Aa, na, ca, za, Ba, ma, da⟩) (I.InT.up HAI9.out.1 hbW1) (E.InP.up HAI9.out.2 hbW1)).1.arg (sin_of (s := ⟨ob, Ab, nb, cb, zb, Bb, mb, db⟩) (I.InT.up HYI9.out hbW1) (E.InP.up HYE9.out hbW1)).1.arg
      rw [HEV.out] at hcall
      unfold Sc.v sv at hcall
      simp only at hcall
      go_simp
      go_wp2_with fail
      refine hcall.mono ?_
      rintro e wj1 ⟨vx, rfl, hx, hbx⟩
      simp only at hx ⊢
      obtain ⟨ox, Ax, nx, cx, Bx, mx, dx, rfl, hxi, hxe⟩ := hx
      obtain ⟨zx, hzx⟩ : ∃ z, e1.N = z := ⟨_, rfl⟩
      rw [hzx] at hxe ⊢
      have HXI1 := Lib.hid hxi
      have HXE1 := Lib.hid hxe
      have HBW1 : Hid (Below wd.heap.size wd wj1) := Lib.hid (hbW1.trans (hbx.mono hbW1.size))
      clear hcall hxi hxe hbx hzx hbW1
      unfold sv
      refine hK.out _ _ (HX9.out.next HBW1.out) (fun hS => ?_)
      clear hK K
      refine wpAnyH_take (i := 9) (v := ?_) rfl (by kernel_rfl) (by kernel_rfl) (by kernel_rfl) (fun _ _ _ h => h) (Yields.yieldsIf (Or.inl ⟨by kernel_rfl, ?_⟩)) hS ?_
      rotate_left
      · first | (intro w; go_simp; done) | (intro w; go_simp; with_reducible rfl)
      refine wpAnyH_take (i := 10) (v := ?_) rfl (by kernel_rfl) (by kernel_rfl) (by kernel_rfl) (fun _ _ _ h => h) (Yields.yieldsIf (Or.inl ⟨by kernel_rfl, ?_⟩)) hS ?_
      rotate_left
      · first | (intro w; go_simp; done) | (intro w; go_simp; with_reducible rfl)
      refine wpAnyH_take (i := 11) (v := ?_) rfl (by kernel_rfl) (by kernel_rfl) (by kernel_rfl) (fun _ _ _ h => h) (Yields.yieldsIf (Or.inl ⟨by kernel_rfl, ?_⟩)) hS ?_
      rotate_left
      · first | (intro w; go_simp; done) | (intro w; go_simp; with_reducible rfl)
      try go_simp
      refine wpAnyH_ready (rs := [12]) (by kernel_rfl) (by simp) ?_
      refine AllReadyH.cons rfl (fun K hK => ?_) AllReadyH.nil
      go_simp
      go_wp2
      have hba2 : Below wj1.heap.size wj1 (wj1.alloc (.cells #[.bool false, .slice none 0 0, .int .i64 0, .slice none 0 0] 29)) := (Below.refl _ _).alloc (Nat.le_refl _) _
      have HBW2 : Hid (Below wd.heap.size wd (wj1.alloc (.cells #[.bool false, .slice none 0 0, .int .i64 0, .slice none 0 0] 29))) := Lib.hid ((HBW1.out).trans (hba2.mono (HBW1.out).size))
      have HBB2 : Hid (Blk (wj1.alloc (.cells #[.bool false, .slice none 0 0, .int .i64 0, .slice none 0 0] 29)) wj1.heap.size 29 (cellsS [Sc.zero])) := Lib.hid (Blk.new wj1 29 (cellsS [Sc.zero]))
      have HXI2 := Lib.hid (I.InT.up HXI1.out hba2)
      have HXE2 := Lib.hid (E.InP.up HXE1.out hba2)
      clear hba2
      refine hK.out _ _ (HX9.out.next HBW2.out) (fun hS => ?_)
      clear hK K
      generalize wj1.alloc (.cells #[.bool false, .slice none 0 0, .int .i64 0, .slice none 0 0] 29) = wa2 at *
      try go_simp
      refine wpAnyH_ready (rs := [13]) (by kernel_rfl) (by simp) ?_
      refine AllReadyH.cons rfl (fun K hK => ?_) AllReadyH.nil
      obtain ⟨b0, b1, b2, b3⟩ := HBB2.out.c4
      have f0 := HBB2.out.frozen 0
      have f1 := HBB2.out.frozen 1
      have f2 := HBB2.out.frozen 2
      have f3 := HBB2.out.frozen 3
      have hg12 : wd.heap.size ≤ wj1.heap.size := HBW1.out.size
      go_simp
      go_wp2
      have hsz : ((((wa2.setCell ⟨wj1.heap.size, 0, none⟩ (.bool ox)).setCell ⟨wj1.heap.size, 1, none⟩ (.slice Ax nx cx)).setCell ⟨wj1.heap.size, 2, none⟩ (.int .i64 zx)).setCell ⟨wj1.heap.size, 3, none⟩ (.slice Bx mx dx)).heap.size = wa2.heap.size := stamp_size _ _ _ _ _ _
      have hbt : But wa2 ((((wa2.setCell ⟨wj1.heap.size, 0, none⟩ (.bool ox)).setCell ⟨wj1.heap.size, 1, none⟩ (.slice Ax nx cx)).setCell ⟨wj1.heap.size, 2, none⟩ (.int .i64 zx)).setCell ⟨wj1.heap.size, 3, none⟩ (.slice Bx mx dx)) wj1.heap.size := stamp_but _ _ _ _ _ _
      have HXIE : Hid (IT ((((wa2.setCell ⟨wj1.heap.size, 0, none⟩ (.bool ox)).setCell ⟨wj1.heap.size, 1, none⟩ (.slice Ax nx cx)).setCell ⟨wj1.heap.size, 2, none⟩ (.int .i64 zx)).setCell ⟨wj1.heap.size, 3, none⟩ (.slice Bx mx dx)) i1 (I.tv ox Ax nx cx)) := Lib.hid ((cellsS_noT HBB2.out).it hbt (Nat.le_of_eq hsz.symm) HXI2.out)
      have HXEE : Hid (ET ((((wa2.setCell ⟨wj1.heap.size, 0, none⟩ (.bool ox)).setCell ⟨wj1.heap.size, 1, none⟩ (.slice Ax nx cx)).setCell ⟨wj1.heap.size, 2, none⟩ (.int .i64 zx)).setCell ⟨wj1.heap.size, 3, none⟩ (.slice Bx mx dx)) e1 (E.tv zx Bx mx dx)) := Lib.hid ((cellsS_noT HBB2.out).et hbt (Nat.le_of_eq hsz.symm) HXE2.out)
      have HBBE : Hid (Blk ((((wa2.setCell ⟨wj1.heap.size, 0, none⟩ (.bool ox)).setCell ⟨wj1.heap.size, 1, none⟩ (.slice Ax nx cx)).setCell ⟨wj1.heap.size, 2, none⟩ (.int .i64 zx)).setCell ⟨wj1.heap.size, 3, none⟩ (.slice Bx mx dx)) wj1.heap.size 29 (cellsS [⟨ox, Ax, nx, cx, zx, Bx, mx, dx⟩])) := Lib.hid (HBB2.out.stamp ⟨ox, Ax, nx, cx, zx, Bx, mx, dx⟩)
      have hbe : Below wd.heap.size wd ((((wa2.setCell ⟨wj1.heap.size, 0, none⟩ (.bool ox)).setCell ⟨wj1.heap.size, 1, none⟩ (.slice Ax nx cx)).setCell ⟨wj1.heap.size, 2, none⟩ (.int .i64 zx)).setCell ⟨wj1.heap.size, 3, none⟩ (.slice Bx mx dx)) := stamp_below HBW2.out hg12 _ _ _ _
      have HTE := Lib.hid (HT9.out.next hbe)
      have HBEE := Lib.hid (HBE9.out.trans (hbe.mono (Nat.le_trans hB HBE9.out.size)))
      have hS3 : CX [(g, 0, .slice (some ⟨gl, 0, none⟩) lq lc), (gl, a * 4, .bool oa), (gl, a * 4 + 1, .slice Aa na ca), (gl, a * 4 + 2, .int .i64 za), (gl, a * 4 + 3, .slice Ba ma da), (W.heap.size, 0, .bool ob), (W.heap.size, 1, .slice Ab nb cb), (W.heap.size, 2, .int .i64 zb), (W.heap.size, 3, .slice Bb mb db)] _ := HX9.out.next hbe
      clear b0 b1 b2 b3 f0 f1 f2 f3 hsz hbt hbe
      refine hK.out _ _ hS3 (fun hS => ?_)
      clear hK K hS3
      generalize (((wa2.setCell ⟨wj1.heap.size, 0, none⟩ (.bool ox)).setCell ⟨wj1.heap.size, 1, none⟩ (.slice Ax nx cx)).setCell ⟨wj1.heap.size, 2, none⟩ (.int .i64 zx)).setCell ⟨wj1.heap.size, 3, none⟩ (.slice Bx mx dx) = wE at *
      refine wpAnyH_take (i := 14) (v := ?_) rfl (by kernel_rfl) (by kernel_rfl) (by kernel_rfl) (fun _ _ _ h => h) (Yields.yieldsIf (Or.inl ⟨by kernel_rfl, ?_⟩)) hS ?_
      rotate_left
      · first | (intro w; go_simp; done) | (intro w; go_simp; with_reducible rfl)
      try go_simp
      refine wpAnyH_done (by kernel_rfl) ?_ _
      go_wp2_with fail
      go_meet
      exact ⟨wj1.heap.size, ox, Ax, nx, cx, zx, Bx, mx, dx, rfl, rfl, by omega, HTE, HBBE, HXIE, HXEE, HBEE⟩
    · go_simp
      go_wp2
      have hba1 : Below wd.heap.size wd (wd.alloc (.cells #[.bool false, .slice none 0 0, .int .i64 0, .slice none 0 0] 29)) := (Below.refl _ _).alloc (Nat.le_refl _) _
      have HBW1 : Hid (Below wd.heap.size wd (wd.alloc (.cells #[.bool false, .slice none 0 0, .int .i64 0, .slice none 0 0] 29))) := Lib.hid (((Below.refl wd.heap.size wd)).trans (hba1.mono ((Below.refl wd.heap.size wd)).size))
      have HBB1 : Hid (Blk (wd.alloc (.cells #[.bool false, .slice none 0 0, .int .i64 0, .slice none 0 0] 29)) wd.heap.size 29 (cellsS [Sc.zero])) := Lib.hid (Blk.new wd 29 (cellsS [Sc.zero]))
      clear hba1
      refine hK.out _ _ (HX9.out.next HBW1.out) (fun hS => ?_)
      clear hK K
      generalize wd.alloc (.cells #[.bool false, .slice none 0 0, .int .i64 0, .slice none 0 0] 29) = wa1 at *
      try go_simp
      refine wpAnyH_ready (rs := [8]) (by kernel_rfl) (by simp) ?_
      refine AllReadyH.cons rfl (fun K hK => ?_) AllReadyH.nil
      have hbW2 : Below wd.heap.size wd wa1 := HBW1.out
      have hcall := join_any (sin_of (s := ⟨oa, Aa, na, ca, za, Ba, ma, da⟩) (I.InT.up HAI9.out.1 hbW2) (E.InP.up HAI9.out.2 hbW2)).1.arg (sin_of (s := ⟨ob, Ab, nb, cb, zb, Bb, mb, db⟩) (I.InT.up HYI9.out hbW2) (E.InP.up HYE9.out hbW2)).1.arg
      rw [HEV.out] at hcall
      unfold Sc.v sv at hcall
      simp only at hcall
      go_simp
      go_wp2_with fail
      refine hcall.mono ?_
      rintro e wj2 ⟨vx, rfl, hx, hbx⟩
      simp only at hx ⊢
      obtain ⟨ox, Ax, nx, cx, Bx, mx, dx, rfl, hxi, hxe⟩ := hx
      obtain ⟨zx, hzx⟩ : ∃ z, e1.N = z := ⟨_, rfl⟩
      rw [hzx] at hxe ⊢
      have HXI2 := Lib.hid hxi
      have HXE2 := Lib.hid hxe
      have HBW2 : Hid (Below wd.heap.size wd wj2) := Lib.hid (hbW2.trans (hbx.mono hbW2.size))
      have HBB2 : Hid (Blk wj2 wd.heap.size 29 (cellsS [Sc.zero])) := Lib.hid (HBB1.out.below hbx HBB1.out.lt)
      clear hcall hxi hxe hbx hzx hbW2
      unfold sv
      refine hK.out _ _ (HX9.out.next HBW2.out) (fun hS => ?_)
      clear hK K
      refine wpAnyH_take (i := 9) (v := ?_) rfl (by kernel_rfl) (by kernel_rfl) (by kernel_rfl) (fun _ _ _ h => h) (Yields.yieldsIf (Or.inl ⟨by kernel_rfl, ?_⟩)) hS ?_
      rotate_left
      · first | (intro w; go_simp; done) | (intro w; go_simp; with_reducible rfl)
      refine wpAnyH_take (i := 10) (v := ?_) rfl (by kernel_rfl) (by kernel_rfl) (by kernel_rfl) (fun _ _ _ h => h) (Yields.yieldsIf (Or.inl ⟨by kernel_rfl, ?_⟩)) hS ?_
      rotate_left
      · first | (intro w; go_simp; done) | (intro w; go_simp; with_reducible rfl)
      refine wpAnyH_take (i := 11) (v := ?_) rfl (by kernel_rfl) (by kernel_rfl) (by kernel_rfl) (fun _ _ _ h => h) (Yields.yieldsIf (Or.inl ⟨by kernel_rfl, ?_⟩)) hS ?_
      rotate_left
      · first | (intro w; go_simp; done) | (intro w; go_simp; with_reducible rfl)
      try go_simp
      refine wpAnyH_ready (rs := [13]) (by kernel_rfl) (by simp) ?_
      refine AllReadyH.cons rfl (fun K hK => ?_) AllReadyH.nil
      obtain ⟨b0, b1, b2, b3⟩ := HBB2.out.c4
      have f0 := HBB2.out.frozen 0
      have f1 := HBB2.out.frozen 1
      have f2 := HBB2.out.frozen 2
      have f3 := HBB2.out.frozen 3
      have hg12 : wd.heap.size ≤ wd.heap.size := Nat.le_refl _
      go_simp
      go_wp2
      have hsz : ((((wj2.setCell ⟨wd.heap.size, 0, none⟩ (.bool ox)).setCell ⟨wd.heap.size, 1, none⟩ (.slice Ax nx cx)).setCell ⟨wd.heap.size, 2, none⟩ (.int .i64 zx)).setCell ⟨wd.heap.size, 3, none⟩ (.slice Bx mx dx)).heap.size = wj2.heap.size := stamp_size _ _ _ _ _ _
      have hbt : But wj2 ((((wj2.setCell ⟨wd.heap.size, 0, none⟩ (.bool ox)).setCell ⟨wd.heap.size, 1, none⟩ (.slice Ax nx cx)).setCell ⟨wd.heap.size, 2, none⟩ (.int .i64 zx)).setCell ⟨wd.heap.size, 3, none⟩ (.slice Bx mx dx)) wd.heap.size := stamp_but _ _ _ _ _ _
      have HXIE : Hid (IT ((((wj2.setCell ⟨wd.heap.size, 0, none⟩ (.bool ox)).setCell ⟨wd.heap.size, 1, none⟩ (.slice Ax nx cx)).setCell ⟨wd.heap.size, 2, none⟩ (.int .i64 zx)).setCell ⟨wd.heap.size, 3, none⟩ (.slice Bx mx dx)) i1 (I.tv ox Ax nx cx)) := Lib.hid ((cellsS_noT HBB2.out).it hbt (Nat.le_of_eq hsz.symm) HXI2.out)
      have HXEE : Hid (ET ((((wj2.setCell ⟨wd.heap.size, 0, none⟩ (.bool ox)).setCell ⟨wd.heap.size, 1, none⟩ (.slice Ax nx cx)).setCell ⟨wd.heap.size, 2, none⟩ (.int .i64 zx)).setCell ⟨wd.heap.size, 3, none⟩ (.slice Bx mx dx)) e1 (E.tv zx Bx mx dx)) := Lib.hid ((cellsS_noT HBB2.out).et hbt (Nat.le_of_eq hsz.symm) HXE2.out)
      have HBBE : Hid (Blk ((((wj2.setCell ⟨wd.heap.size, 0, none⟩ (.bool ox)).setCell ⟨wd.heap.size, 1, none⟩ (.slice Ax nx cx)).setCell ⟨wd.heap.size, 2, none⟩ (.int .i64 zx)).setCell ⟨wd.heap.size, 3, none⟩ (.slice Bx mx dx)) wd.heap.size 29 (cellsS [⟨ox, Ax, nx, cx, zx, Bx, mx, dx⟩])) := Lib.hid (HBB2.out.stamp ⟨ox, Ax, nx, cx, zx, Bx, mx, dx⟩)
      have hbe : Below wd.heap.size wd ((((wj2.setCell ⟨wd.heap.size, 0, none⟩ (.bool ox)).setCell ⟨wd.heap.size, 1, none⟩ (.slice Ax nx cx)).setCell ⟨wd.heap.size, 2, none⟩ (.int .i64 zx)).setCell ⟨wd.heap.size, 3, none⟩ (.slice Bx mx dx)) := stamp_below HBW2.out hg12 _ _ _ _
      have HTE := Lib.hid (HT9.out.next hbe)
      have HBEE := Lib.hid (HBE9.out.trans (hbe.mono (Nat.le_trans hB HBE9.out.size)))
      have hS3 : CX [(g, 0, .slice (some ⟨gl, 0, none⟩) lq lc), (gl, a * 4, .bool oa), (gl, a * 4 + 1, .slice Aa na ca), (gl, a * 4 + 2, .int .i64 za), (gl, a * 4 + 3, .slice Ba ma da), (W.heap.size, 0, .bool ob), (W.heap.size, 1, .slice Ab nb cb), (W.heap.size, 2, .int .i64 zb), (W.heap.size, 3, .slice Bb mb db)] _ := HX9.out.next hbe
      clear b0 b1 b2 b3 f0 f1 f2 f3 hsz hbt hbe
      refine hK.out _ _ hS3 (fun hS => ?_)
      clear hK K hS3
      generalize (((wj2.setCell ⟨wd.heap.size, 0, none⟩ (.bool ox)).setCell ⟨wd.heap.size, 1, none⟩ (.slice Ax nx cx)).setCell ⟨wd.heap.size, 2, none⟩ (.int .i64 zx)).setCell ⟨wd.heap.size, 3, none⟩ (.slice Bx mx dx) = wE at *
      refine wpAnyH_take (i := 14) (v := ?_) rfl (by kernel_rfl) (by kernel_rfl) (by kernel_rfl) (fun _ _ _ h => h) (Yields.yieldsIf (Or.inl ⟨by kernel_rfl, ?_⟩)) hS ?_
      rotate_left
      · first | (intro w; go_simp; done) | (intro w; go_simp; with_reducible rfl)
      try go_simp
      refine wpAnyH_done (by kernel_rfl) ?_ _
      go_wp2_with fail
      go_meet
      exact ⟨wd.heap.size, ox, Ax, nx, cx, zx, Bx, mx, dx, rfl, rfl, by omega, HTE, HBBE, HXIE, HXEE, HBEE⟩
  case rest =>
    obtain ⟨g12, ox, Ax, nx, cx, zx, Bx, mx, dx, rfl, rfl, hg12, HT10, HBX10, HXI10, HXE10, HBE10⟩ := hcut
    clear HT4 HBY4 HYI4 HYE4 HBE4
    go_upto_region 12 with fail
    have hd : Below wc.heap.size wc wc.drew := (Below.refl _ _).drew
    have HT11 := Lib.hid (HT10.out.next hd)
    have HXI11 := Lib.hid (I.InT.up HXI10.out hd)
    have HXE11 := Lib.hid (E.InP.up HXE10.out hd)
    have HBE11 := Lib.hid (HBE10.out.trans (hd.mono (Nat.le_trans hB HBE10.out.size)))
    have HX11 : Hid (CX [(g, 0, .slice (some ⟨gl, 0, none⟩) lq lc), (g12, 0, .bool ox), (g12, 1, .slice Ax nx cx), (g12, 2, .int .i64 zx), (g12, 3, .slice Bx mx dx)] wc.drew) := Lib.hid (by
      obtain ⟨c0, _, _⟩ := HT11.out.c3
      rw [HLQ.out, HLC.out] at c0
      obtain ⟨b0, b1, b2, b3⟩ := (HBX10.out.below hd HBX10.out.lt).c4
      intro f hf
      simp only [List.mem_cons, List.not_mem_nil, or_false] at hf
      rcases hf with rfl | rfl | rfl | rfl | rfl
      · exact c0
      · exact b0
      · exact b1
      · exact b2
      · exact b3)
    refine wp_region_held_drew (S := fun W => CX [(g, 0, .slice (some ⟨gl, 0, none⟩) lq lc), (g12, 0, .bool ox), (g12, 1, .slice Ax nx cx), (g12, 2, .int .i64 zx), (g12, 3, .slice Bx mx dx)] W) (by kernel_rfl) HX11.out (fun hS => ?_)
    clear hd HT10 HBX10 HXI10 HXE10 HBE10
    generalize wc.drew = wd at *
    refine wpAnyH_take (i := 0) (v := ?_) rfl (by kernel_rfl) (by kernel_rfl) (by kernel_rfl) (fun _ _ _ h => h) (Yields.yieldsIf (Or.inl ⟨by kernel_rfl, ?_⟩)) hS ?_
    rotate_left
    · first | (intro w; go_simp; done) | (intro w; go_simp; with_reducible rfl)
    refine wpAnyH_take (i := 1) (v := ?_) rfl (by kernel_rfl) (by kernel_rfl) (by kernel_rfl) (fun _ _ _ h => h) (Yields.yieldsIf (Or.inl ⟨by kernel_rfl, ?_⟩)) hS ?_
    rotate_left
    · first | (intro w; go_simp; done) | (intro w; go_simp; with_reducible rfl)
    refine wpAnyH_take (i := 2) (v := ?_) rfl (by kernel_rfl) (by kernel_rfl) (by kernel_rfl) (fun _ _ _ h => h) (Yields.yieldsIf (Or.inl ⟨by kernel_rfl, ?_⟩)) hS ?_
    rotate_left
    · first | (intro w; go_simp; done) | (intro w; go_simp; with_reducible rfl)
    refine wpAnyH_take (i := 3) (v := ?_) rfl (by kernel_rfl) (by kernel_rfl) (by kernel_rfl) (fun _ _ _ h => h) (Or.inl ⟨by kernel_rfl, fun W hW => ?_⟩) hS ?_
    rotate_left
    · have f := hW
      simp only [CX, List.mem_cons, List.not_mem_nil, or_false, forall_eq_or_imp, forall_eq] at f
      obtain ⟨p0, p1, p2, p3, p4⟩ := f
      first | (go_simp; done) | (go_simp; with_reducible rfl)
    refine wpAnyH_take (i := 4) (v := ?_) rfl (by kernel_rfl) (by kernel_rfl) (by kernel_rfl) (fun _ _ _ h => h) (Yields.yieldsIf (Or.inl ⟨by kernel_rfl, ?_⟩)) hS ?_
    rotate_left
    · first | (intro w; go_simp; done) | (intro w; go_simp; with_reducible rfl)
    refine wpAnyH_take (i := 5) (v := ?_) rfl (by kernel_rfl) (by kernel_rfl) (by kernel_rfl) (fun _ _ _ h => h) (Or.inl ⟨by kernel_rfl, fun W hW => ?_⟩) hS ?_
    rotate_left
    · have f := hW
      simp only [CX, List.mem_cons, List.not_mem_nil, or_false, forall_eq_or_imp, forall_eq] at f
      obtain ⟨p0, p1, p2, p3, p4⟩ := f
      first | (go_simp; done) | (go_simp; with_reducible rfl)
    refine wpAnyH_take (i := 6) (v := ?_) rfl (by kernel_rfl) (by kernel_rfl) (by kernel_rfl) (fun _ _ _ h => h) (Yields.yieldsIf (Or.inl ⟨by kernel_rfl, ?_⟩)) hS ?_
    rotate_left
    · first | (intro w; go_simp; done) | (intro w; go_simp; with_reducible rfl)
    try go_simp
    refine wpAnyH_ready (rs := [7]) (by kernel_rfl) (by simp) ?_
    refine AllReadyH.cons rfl (fun K hK => ?_) AllReadyH.nil
    obtain ⟨d0, d1, d2, d3⟩ := HT11.out.c4 HS.out
    have f0 := HT11.out.bl.frozen (a * 4)
    have f1 := HT11.out.bl.frozen (a * 4 + 1)
    have f2 := HT11.out.bl.frozen (a * 4 + 2)
    have f3 := HT11.out.bl.frozen (a * 4 + 3)
    go_simp
    go_wp2
    refine hK.out _ _ (HX11.out.but (put4_but wd gl a ⟨ox, Ax, nx, cx, zx, Bx, mx, dx⟩) (by simp only [List.mem_cons, List.not_mem_nil, or_false, forall_eq_or_imp, forall_eq]; omega)) (fun hS => ?_)
    clear hK K
    have HT12 : Hid (Stt ((((wd.setCell ⟨gl, a * 4, none⟩ (.bool ox)).setCell ⟨gl, a * 4 + 1, none⟩ (.slice Ax nx cx)).setCell ⟨gl, a * 4 + 2, none⟩ (.int .i64 zx)).setCell ⟨gl, a * 4 + 3, none⟩ (.slice Bx mx dx)) B g gl gs (CS.set a ⟨ox, Ax, nx, cx, zx, Bx, mx, dx⟩) SS (Q.set a (i1, e1, q.2.2)) n) := Lib.hid (HT11.out.put HQ.out ⟨ox, Ax, nx, cx, zx, Bx, mx, dx⟩ HXI11.out HXE11.out)
    have HBE12 : Hid (Below B W ((((wd.setCell ⟨gl, a * 4, none⟩ (.bool ox)).setCell ⟨gl, a * 4 + 1, none⟩ (.slice Ax nx cx)).setCell ⟨gl, a * 4 + 2, none⟩ (.int .i64 zx)).setCell ⟨gl, a * 4 + 3, none⟩ (.slice Bx mx dx))) := Lib.hid (put4_below HBE11.out HT11.out.hB.2.1 a ⟨ox, Ax, nx, cx, zx, Bx, mx, dx⟩)
    clear HT11 HXI11 HXE11 HBE11 HX11 hS d0 d1 d2 d3 f0 f1 f2 f3
    generalize (((wd.setCell ⟨gl, a * 4, none⟩ (.bool ox)).setCell ⟨gl, a * 4 + 1, none⟩ (.slice Ax nx cx)).setCell ⟨gl, a * 4 + 2, none⟩ (.int .i64 zx)).setCell ⟨gl, a * 4 + 3, none⟩ (.slice Bx mx dx) = w12 at *
    try go_simp
    refine wpAnyH_done (by kernel_rfl) ?_ _
    go_upto_region 13 with fail
    have hd : Below w12.heap.size w12 w12.drew := (Below.refl _ _).drew
    have HT13 := Lib.hid (HT12.out.next hd)
    have HX13 : Hid (CX [(g, 1, .slice (some ⟨gs, 0, none⟩) lq ls), (gs, b, (.slice A' p.2.2.length c'))] w12.drew) := Lib.hid (by
      obtain ⟨_, c1, _⟩ := HT13.out.c3
      rw [List.length_set, HLQ.out, HLS.out] at c1
      have c2 := HT13.out.c1 HR'.out
      intro f hf
      simp only [List.mem_cons, List.not_mem_nil, or_false] at hf
      rcases hf with rfl | rfl
      · exact c1
      · exact c2)
    have HBE13 := Lib.hid (HBE12.out.trans (hd.mono (Nat.le_trans hB HBE12.out.size)))
    have HQS : Hid ((Q.set a (i1, e1, q.2.2))[a]? = some (i1, e1, q.2.2)) := Lib.hid (by rw [List.getElem?_set, if_pos rfl, if_pos HA.out])
    have HPS : Hid ((Q.set a (i1, e1, q.2.2))[b]? = some p) := Lib.hid (by rw [List.getElem?_set, if_neg hab]; exact HP.out)
    have HRK13 : Hid (RowK w12.drew ⟨A, q.2.2.length, c⟩ q.2.2) := Lib.hid (by
      obtain ⟨r, h1, h2⟩ := HT13.out.er a _ HQS.out
      rw [HR.out] at h1
      injection h1 with h1
      subst h1
      exact h2)
    have HRK13' : Hid (RowK w12.drew ⟨A', p.2.2.length, c'⟩ p.2.2) := Lib.hid (by
      obtain ⟨r, h1, h2⟩ := HT13.out.er b _ HPS.out
      rw [HR'.out] at h1
      injection h1 with h1
      subst h1
      exact h2)
    refine wp_region_held_drew (S := fun W => CX [(g, 1, .slice (some ⟨gs, 0, none⟩) lq ls), (gs, b, (.slice A' p.2.2.length c'))] W) (by kernel_rfl) HX13.out (fun hS => ?_)
    clear hd HT12 HBE12
    generalize w12.drew = wd3 at *
    refine wpAnyH_take (i := 0) (v := ?_) rfl (by kernel_rfl) (by kernel_rfl) (by kernel_rfl) (fun _ _ _ h => h) (Yields.yieldsIf (Or.inl ⟨by kernel_rfl, ?_⟩)) hS ?_
    rotate_left
    · first | (intro w; go_simp; done) | (intro w; go_simp; with_reducible rfl)
    refine wpAnyH_take (i := 1) (v := ?_) rfl (by kernel_rfl) (by kernel_rfl) (by kernel_rfl) (fun _ _ _ h => h) (Yields.yieldsIf (Or.inl ⟨by kernel_rfl, ?_⟩)) hS ?_
    rotate_left
    · first | (intro w; go_simp; done) | (intro w; go_simp; with_reducible rfl)
    refine wpAnyH_take (i := 2) (v := ?_) rfl (by kernel_rfl) (by kernel_rfl) (by kernel_rfl) (fun _ _ _ h => h) (Yields.yieldsIf (Or.inl ⟨by kernel_rfl, ?_⟩)) hS ?_
    rotate_left
    · first | (intro w; go_simp; done) | (intro w; go_simp; with_reducible rfl)
    refine wpAnyH_take (i := 3) (v := ?_) rfl (by kernel_rfl) (by kernel_rfl) (by kernel_rfl) (fun _ _ _ h => h) (Or.inl ⟨by kernel_rfl, fun W hW => ?_⟩) hS ?_
    rotate_left
    · have f := hW
      simp only [CX, List.mem_cons, List.not_mem_nil, or_false, forall_eq_or_imp, forall_eq] at f
      obtain ⟨p0, p1⟩ := f
      first | (go_simp; done) | (go_simp; with_reducible rfl)
    refine wpAnyH_take (i := 4) (v := ?_) rfl (by kernel_rfl) (by kernel_rfl) (by kernel_rfl) (fun _ _ _ h => h) (Yields.yieldsIf (Or.inl ⟨by kernel_rfl, ?_⟩)) hS ?_
    rotate_left
    · first | (intro w; go_simp; done) | (intro w; go_simp; with_reducible rfl)
    refine wpAnyH_take (i := 5) (v := ?_) rfl (by kernel_rfl) (by kernel_rfl) (by kernel_rfl) (fun _ _ _ h => h) (Yields.yieldsIf (Or.inl ⟨by kernel_rfl, ?_⟩)) hS ?_
    rotate_left
    · first | (intro w; go_simp; done) | (intro w; go_simp; with_reducible rfl)
    refine wpAnyH_take (i := 6) (v := ?_) rfl (by kernel_rfl) (by kernel_rfl) (by kernel_rfl) (fun _ _ _ h => h) (Yields.yieldsIf (Or.inl ⟨by kernel_rfl, ?_⟩)) hS ?_
    rotate_left
    · first | (intro w; go_simp; done) | (intro w; go_simp; with_reducible rfl)
    refine wpAnyH_take (i := 7) (v := ?_) rfl (by kernel_rfl) (by kernel_rfl) (by kernel_rfl) (fun _ _ _ h => h) (Yields.yieldsIf (Or.inl ⟨by kernel_rfl, ?_⟩)) hS ?_
    rotate_left
    · first | (intro w; go_simp; done) | (intro w; go_simp; with_reducible rfl)
    refine wpAnyH_take (i := 8) (v := ?_) rfl (by kernel_rfl) (by kernel_rfl) (by kernel_rfl) (fun _ _ _ h => h) (Or.inl ⟨by kernel_rfl, fun W hW => ?_⟩) hS ?_
    rotate_left
    · have f := hW
      simp only [CX, List.mem_cons, List.not_mem_nil, or_false, forall_eq_or_imp, forall_eq] at f
      obtain ⟨p0, p1⟩ := f
      first | (go_simp; done) | (go_simp; with_reducible rfl)
    refine wpAnyH_take (i := 9) (v := ?_) rfl (by kernel_rfl) (by kernel_rfl) (by kernel_rfl) (fun _ _ _ h => h) (Yields.yieldsIf (Or.inl ⟨by kernel_rfl, ?_⟩)) hS ?_
    rotate_left
    · first | (intro w; go_simp; done) | (intro w; go_simp; with_reducible rfl)
    refine wpAnyH_take (i := 10) (v := ?_) rfl (by kernel_rfl) (by kernel_rfl) (by kernel_rfl) (fun _ _ _ h => h) (Yields.yieldsIf (Or.inl ⟨by kernel_rfl, ?_⟩)) hS ?_
    rotate_left
    · first | (intro w; go_simp; done) | (intro w; go_simp; with_reducible rfl)
    refine wpAnyH_take (i := 12) (v := ?_) rfl (by kernel_rfl) (by kernel_rfl) (by kernel_rfl) (fun _ _ _ h => h) (Yields.yieldsIf (Or.inl ⟨by kernel_rfl, ?_⟩)) hS ?_
    rotate_left
    · first | (intro w; go_simp; done) | (intro w; go_simp; with_reducible rfl)
    refine wpAnyH_take (i := 13) (v := ?_) rfl (by kernel_rfl) (by kernel_rfl) (by kernel_rfl) (fun _ _ _ h => h) (Yields.yieldsIf (Or.inl ⟨by kernel_rfl, ?_⟩)) hS ?_
    rotate_left
    · first | (intro w; go_simp; done) | (intro w; go_simp; with_reducible rfl)
    refine wpAnyH_take (i := 14) (v := ?_) rfl (by kernel_rfl) (by kernel_rfl) (by kernel_rfl) (fun _ _ _ h => h) (Yields.yieldsIf (Or.inl ⟨by kernel_rfl, ?_⟩)) hS ?_
    rotate_left
    · first | (intro w; go_simp; done) | (intro w; go_simp; with_reducible rfl)
    refine wpAnyH_take (i := 15) (v := ?_) rfl (by kernel_rfl) (by kernel_rfl) (by kernel_rfl) (fun _ _ _ h => h) (Or.inl ⟨by kernel_rfl, fun W hW => ?_⟩) hS ?_
    rotate_left
    · have f := hW
      simp only [CX, List.mem_cons, List.not_mem_nil, or_false, forall_eq_or_imp, forall_eq] at f
      obtain ⟨p0, p1⟩ := f
      first | (go_simp; done) | (go_simp; with_reducible rfl)
    refine wpAnyH_take (i := 16) (v := ?_) rfl (by kernel_rfl) (by kernel_rfl) (by kernel_rfl) (fun _ _ _ h => h) (Yields.yieldsIf (Or.inl ⟨by kernel_rfl, ?_⟩)) hS ?_
    rotate_left
    · first | (intro w; go_simp; done) | (intro w; go_simp; with_reducible rfl)
    refine wpAnyH_take (i := 17) (v := ?_) rfl (by kernel_rfl) (by kernel_rfl) (by kernel_rfl) (fun _ _ _ h => h) (Yields.yieldsIf (Or.inl ⟨by kernel_rfl, ?_⟩)) hS ?_
    rotate_left
    · first | (intro w; go_simp; done) | (intro w; go_simp; with_reducible rfl)
    refine wpAnyH_take (i := 18) (v := ?_) rfl (by kernel_rfl) (by kernel_rfl) (by kernel_rfl) (fun _ _ _ h => h) (Or.inl ⟨by kernel_rfl, fun W hW => ?_⟩) hS ?_
    rotate_left
    · have f := hW
      simp only [CX, List.mem_cons, List.not_mem_nil, or_false, forall_eq_or_imp, forall_eq] at f
      obtain ⟨p0, p1⟩ := f
      first | (go_simp; done) | (go_simp; with_reducible rfl)
    try go_simp
    refine wpAnyH_ready (rs := [11]) (by kernel_rfl) (by simp) ?_
    refine AllReadyH.cons rfl (fun K hK => ?_) AllReadyH.nil
    have k1 := HT13.out.c1 HR.out
    simp only at k1
    go_simp
    have hS3 : CX [(g, 1, .slice (some ⟨gs, 0, none⟩) lq ls), (gs, b, (.slice A' p.2.2.length c'))] wd3 := HX13.out
    clear k1
    refine hK.out _ _ hS3 (fun hS => ?_)
    clear hK K hS3
    try go_simp
    refine wpAnyH_ready (rs := [19]) (by kernel_rfl) (by simp) ?_
    refine AllReadyH.cons rfl (fun K hK => ?_) AllReadyH.nil
    have hcall := both_any A A' q.2.2 p.2.2 c c' wd3 HRK13.out.rowB HRK13'.out.rowB (by have := HLL.out; omega) (by have := HLM.out; omega) HRK13.out.2.1 HRK13'.out.2.1
    obtain ⟨L2, hL2⟩ : ∃ L2, bothL q.2.2 p.2.2 = L2 := ⟨_, rfl⟩
    rw [hL2] at hcall
    have HL2 := Lib.hid hL2
    clear hL2
    go_simp
    go_wp2_with fail
    refine hcall.mono ?_
    rintro e wx ⟨rfl, hbk, hbx⟩
    have HT14 := Lib.hid (HT13.out.next hbx)
    have HBK := Lib.hid hbk
    have HX14 := Lib.hid (HX13.out.next hbx)
    have HBE14 := Lib.hid (HBE13.out.trans (hbx.mono (Nat.le_trans hB HBE13.out.size)))
    clear hcall hbk hbx HT13 HX13 HBE13 HRK13 HRK13'
    refine hK.out _ _ (HX14.out) (fun hS => ?_)
    clear hK K
    refine wpAnyH_take (i := 20) (v := ?_) rfl (by kernel_rfl) (by kernel_rfl) (by kernel_rfl) (fun _ _ _ h => h) (Yields.yieldsIf (Or.inl ⟨by kernel_rfl, ?_⟩)) hS ?_
    rotate_left
    · first | (intro w; go_simp; done) | (intro w; go_simp; with_reducible rfl)
    try go_simp
    refine wpAnyH_ready (rs := [21]) (by kernel_rfl) (by simp) ?_
    refine AllReadyH.cons rfl (fun K hK => ?_) AllReadyH.nil
    have k1 := HT14.out.c1 HR.out
    have f1 := HT14.out.bs.frozen a
    go_simp
    go_wp2
    have hS3 : CX [(g, 1, .slice (some ⟨gs, 0, none⟩) lq ls), (gs, b, (.slice A' p.2.2.length c'))] (wx.setCell ⟨gs, a, none⟩ (.slice (some ⟨wd3.heap.size, 0, none⟩) L2.length L2.length)) := by
      intro f hf
      simp only [List.mem_cons, List.not_mem_nil, or_false] at hf
      rcases hf with rfl | rfl
      · exact (set_but wx gs a (.slice (some ⟨wd3.heap.size, 0, none⟩) L2.length L2.length)).cell (by omega) (HX14.out _ (by simp))
      · exact (World.cell?_setCell_other _ _ _ _ (by intro e; injection e with _ e _; exact hab e)).trans (HX14.out _ (by simp))
    refine hK.out _ _ hS3 (fun hS => ?_)
    clear hK K hS3
    have HTE : Hid (Stt (wx.setCell ⟨gs, a, none⟩ (.slice (some ⟨wd3.heap.size, 0, none⟩) L2.length L2.length)) B g gl gs (CS.set a ⟨ox, Ax, nx, cx, zx, Bx, mx, dx⟩) (SS.set a ⟨some ⟨wd3.heap.size, 0, none⟩, L2.length, L2.length⟩) (Q.set a (i1, e1, L2)) n) := Lib.hid (by
      have h1 := HT14.out.see HQS.out ⟨some ⟨wd3.heap.size, 0, none⟩, L2.length, L2.length⟩ (l := L2) ⟨rfl, Nat.le_refl _, .inr ⟨_, rfl, HBK.out⟩⟩
      rw [List.set_set] at h1
      exact h1)
    have HBEE := Lib.hid (HBE14.out.setCell (p := ⟨gs, a, none⟩) HT14.out.hB.2.2 (.slice (some ⟨wd3.heap.size, 0, none⟩) L2.length L2.length))
    clear HT14 HBK HX14 HBE14 hS k1 f1 HQS HPS
    generalize wx.setCell ⟨gs, a, none⟩ (.slice (some ⟨wd3.heap.size, 0, none⟩) L2.length L2.length) = we at *
    try go_simp
    refine wpAnyH_done (by kernel_rfl) ?_ _
    obtain ⟨Q1, hQ1⟩ : ∃ Q1, Q.set a (i1, e1, L2) = Q1 := ⟨_, rfl⟩
    have hl1 : Q1.length = lq := by rw [← hQ1, List.length_set]; exact HLQ.out
    obtain ⟨C1, hC1⟩ : ∃ C, CS.set a ⟨ox, Ax, nx, cx, zx, Bx, mx, dx⟩ = C := ⟨_, rfl⟩
    obtain ⟨R1, hR1⟩ : ∃ C, SS.set a ⟨some ⟨wd3.heap.size, 0, none⟩, L2.length, L2.length⟩ = C := ⟨_, rfl⟩
    have hc1 : C1.length = lc := by rw [← hC1, List.length_set]; exact HLC.out
    have hr1 : R1.length = ls := by rw [← hR1, List.length_set]; exact HLS.out
    have hxl : Q1[lst]? = some x := by rw [← hQ1, ← HL2.out, ← HLT.out]; exact HXL.out
    have HRES : Hid ((((Q.set a (i1, e1, bothL q.2.2 p.2.2)).set b x).take (Q.length - 1)) = (Q1.set b x).take lst) := Lib.hid (by rw [HL2.out, hQ1, HLT.out])
    rw [hQ1, hC1, hR1] at HTE
    have hbq : b < Q1.length := by rw [hl1, ← HLQ.out]; exact HBB.out
    obtain ⟨pb, hpb⟩ : ∃ pb, Q1[b]? = some pb := ⟨_, List.getElem?_eq_getElem hbq⟩
    obtain ⟨⟨ol, Al, nl, cl, zl, Bl, ml, dl⟩, hsl, hli', hle'⟩ := HTE.out.el lst x hxl
    obtain ⟨⟨Ar, mr, cr⟩, hrl, hrkl⟩ := HTE.out.er lst x hxl
    obtain ⟨sb, hsb, _, _⟩ := HTE.out.el b pb hpb
    obtain ⟨rb, hrb, _⟩ := HTE.out.er b pb hpb
    obtain ⟨xm, _, _⟩ := id hrkl
    simp only at xm
    subst xm
    have HSB := Lib.hid hsb
    have HRB := Lib.hid hrb
    have HSL := Lib.hid hsl
    have HRL := Lib.hid hrl
    have HPB := Lib.hid hpb
    have HXL1 := Lib.hid hxl
    have HL1 := Lib.hid hl1
    have HC1 := Lib.hid hc1
    have HR1 := Lib.hid hr1
    have hbl : ((b : Nat) : Int) < (lq : Int) := hbi
    obtain ⟨c0, c1, c2⟩ := HTE.out.c3
    rw [hl1, hc1] at c0
    rw [hl1, hr1] at c1
    clear hQ1 hC1 hR1 hc1 hr1 hl1 hxl hbq hpb hsl hli' hle' hrl hrkl hsb hrb
    go_upto_region 16 with fail
    have hd : Below we.heap.size we we.drew := (Below.refl _ _).drew
    have HT16 := Lib.hid (HTE.out.next hd)
    have HBE16 := Lib.hid (HBEE.out.trans (hd.mono (Nat.le_trans hB HBEE.out.size)))
    have HX16 : Hid (CX [(g, 0, .slice (some ⟨gl, 0, none⟩) lq lc)] we.drew) := Lib.hid (by
      obtain ⟨c0, _, _⟩ := HT16.out.c3
      rw [HL1.out, HC1.out] at c0
      intro f hf
      simp only [List.mem_singleton] at hf
      subst hf
      exact c0)
    refine wp_region_held_drew (S := fun W => CX [(g, 0, .slice (some ⟨gl, 0, none⟩) lq lc)] W) (by kernel_rfl) HX16.out (fun hS => ?_)
    clear hd HTE HBEE c0 c1 c2
    generalize we.drew = wd6 at *
    refine wpAnyH_take (i := 0) (v := ?_) rfl (by kernel_rfl) (by kernel_rfl) (by kernel_rfl) (fun _ _ _ h => h) (Yields.yieldsIf (Or.inl ⟨by kernel_rfl, ?_⟩)) hS ?_
    rotate_left
    · first | (intro w; go_simp; done) | (intro w; go_simp; with_reducible rfl)
    refine wpAnyH_take (i := 1) (v := ?_) rfl (by kernel_rfl) (by kernel_rfl) (by kernel_rfl) (fun _ _ _ h => h) (Yields.yieldsIf (Or.inl ⟨by kernel_rfl, ?_⟩)) hS ?_
    rotate_left
    · first | (intro w; go_simp; done) | (intro w; go_simp; with_reducible rfl)
    refine wpAnyH_take (i := 2) (v := ?_) rfl (by kernel_rfl) (by kernel_rfl) (by kernel_rfl) (fun _ _ _ h => h) (Yields.yieldsIf (Or.inl ⟨by kernel_rfl, ?_⟩)) hS ?_
    rotate_left
    · first | (intro w; go_simp; done) | (intro w; go_simp; with_reducible rfl)
    refine wpAnyH_take (i := 3) (v := ?_) rfl (by kernel_rfl) (by kernel_rfl) (by kernel_rfl) (fun _ _ _ h => h) (Or.inl ⟨by kernel_rfl, fun W hW => ?_⟩) hS ?_
    rotate_left
    · have f := hW
      simp only [CX, List.mem_cons, List.not_mem_nil, or_false, forall_eq_or_imp, forall_eq] at f
      have p0 := f
      first | (go_simp; done) | (go_simp; with_reducible rfl)
    refine wpAnyH_take (i := 4) (v := ?_) rfl (by kernel_rfl) (by kernel_rfl) (by kernel_rfl) (fun _ _ _ h => h) (Yields.yieldsIf (Or.inl ⟨by kernel_rfl, ?_⟩)) hS ?_
    rotate_left
    · first | (intro w; go_simp; done) | (intro w; go_simp; with_reducible rfl)
    refine wpAnyH_take (i := 5) (v := ?_) rfl (by kernel_rfl) (by kernel_rfl) (by kernel_rfl) (fun _ _ _ h => h) (Yields.yieldsIf (Or.inl ⟨by kernel_rfl, ?_⟩)) hS ?_
    rotate_left
    · first | (intro w; go_simp; done) | (intro w; go_simp; with_reducible rfl)
    refine wpAnyH_take (i := 6) (v := ?_) rfl (by kernel_rfl) (by kernel_rfl) (by kernel_rfl) (fun _ _ _ h => h) (Yields.yieldsIf (Or.inl ⟨by kernel_rfl, ?_⟩)) hS ?_
    rotate_left
    · first | (intro w; go_simp; done) | (intro w; go_simp; with_reducible rfl)
    refine wpAnyH_take (i := 7) (v := ?_) rfl (by kernel_rfl) (by kernel_rfl) (by kernel_rfl) (fun _ _ _ h => h) (Yields.yieldsIf (Or.inl ⟨by kernel_rfl, ?_⟩)) hS ?_
    rotate_left
    · first | (intro w; go_simp; done) | (intro w; go_simp; with_reducible rfl)
    refine wpAnyH_take (i := 8) (v := ?_) rfl (by kernel_rfl) (by kernel_rfl) (by kernel_rfl) (fun _ _ _ h => h) (Or.inl ⟨by kernel_rfl, fun W hW => ?_⟩) hS ?_
    rotate_left
    · have f := hW
      simp only [CX, List.mem_cons, List.not_mem_nil, or_false, forall_eq_or_imp, forall_eq] at f
      have p0 := f
      first | (go_simp; done) | (go_simp; with_reducible rfl)
    refine wpAnyH_take (i := 9) (v := ?_) rfl (by kernel_rfl) (by kernel_rfl) (by kernel_rfl) (fun _ _ _ h => h) (Yields.yieldsIf (Or.inl ⟨by kernel_rfl, ?_⟩)) hS ?_
    rotate_left
    · first | (intro w; go_simp; done) | (intro w; go_simp; with_reducible rfl)
    refine wpAnyH_take (i := 10) (v := ?_) rfl (by kernel_rfl) (by kernel_rfl) (by kernel_rfl) (fun _ _ _ h => h) (Yields.yieldsIf (Or.inl ⟨by kernel_rfl, ?_⟩)) hS ?_
    rotate_left
    · first | (intro w; go_simp; done) | (intro w; go_simp; with_reducible rfl)
    try go_simp
    refine wpAnyH_ready (rs := [11]) (by kernel_rfl) (by simp) ?_
    refine AllReadyH.cons rfl (fun K hK => ?_) AllReadyH.nil
    obtain ⟨k0, k1, k2, k3⟩ := HT16.out.c4 HSL.out
    simp only at k0 k1 k2 k3
    go_simp
    have hS3 : CX [(g, 0, .slice (some ⟨gl, 0, none⟩) lq lc)] wd6 := HX16.out
    clear k0 k1 k2 k3
    refine hK.out _ _ hS3 (fun hS => ?_)
    clear hK K hS3
    refine wpAnyH_take (i := 12) (v := ?_) rfl (by kernel_rfl) (by kernel_rfl) (by kernel_rfl) (fun _ _ _ h => h) (Yields.yieldsIf (Or.inl ⟨by kernel_rfl, ?_⟩)) hS ?_
    rotate_left
    · first | (intro w; go_simp; done) | (intro w; go_simp; with_reducible rfl)
    try go_simp
    refine wpAnyH_ready (rs := [13]) (by kernel_rfl) (by simp) ?_
    refine AllReadyH.cons rfl (fun K hK => ?_) AllReadyH.nil
    obtain ⟨d0, d1, d2, d3⟩ := HT16.out.c4 HSB.out
    have f0 := HT16.out.bl.frozen (b * 4)
    have f1 := HT16.out.bl.frozen (b * 4 + 1)
    have f2 := HT16.out.bl.frozen (b * 4 + 2)
    have f3 := HT16.out.bl.frozen (b * 4 + 3)
    go_simp
    go_wp2
    refine hK.out _ _ (HX16.out.but (put4_but wd6 gl b ⟨ol, Al, nl, cl, zl, Bl, ml, dl⟩) (by simp only [List.mem_singleton, forall_eq]; omega)) (fun hS => ?_)
    clear hK K
    have HT17 : Hid (Stt ((((wd6.setCell ⟨gl, b * 4, none⟩ (.bool ol)).setCell ⟨gl, b * 4 + 1, none⟩ (.slice Al nl cl)).setCell ⟨gl, b * 4 + 2, none⟩ (.int .i64 zl)).setCell ⟨gl, b * 4 + 3, none⟩ (.slice Bl ml dl)) B g gl gs (C1.set b ⟨ol, Al, nl, cl, zl, Bl, ml, dl⟩) R1 (Q1.set b (x.1, x.2.1, pb.2.2)) n) := Lib.hid (by
      obtain ⟨s0, k0, k1, k2⟩ := HT16.out.el lst x HXL1.out
      rw [HSL.out] at k0
      injection k0 with k0
      subst k0
      exact HT16.out.put HPB.out ⟨ol, Al, nl, cl, zl, Bl, ml, dl⟩ k1 k2)
    have HBE17 : Hid (Below B W ((((wd6.setCell ⟨gl, b * 4, none⟩ (.bool ol)).setCell ⟨gl, b * 4 + 1, none⟩ (.slice Al nl cl)).setCell ⟨gl, b * 4 + 2, none⟩ (.int .i64 zl)).setCell ⟨gl, b * 4 + 3, none⟩ (.slice Bl ml dl))) := Lib.hid (put4_below HBE16.out HT16.out.hB.2.1 b ⟨ol, Al, nl, cl, zl, Bl, ml, dl⟩)
    have HRKL : Hid (RowK ((((wd6.setCell ⟨gl, b * 4, none⟩ (.bool ol)).setCell ⟨gl, b * 4 + 1, none⟩ (.slice Al nl cl)).setCell ⟨gl, b * 4 + 2, none⟩ (.int .i64 zl)).setCell ⟨gl, b * 4 + 3, none⟩ (.slice Bl ml dl)) ⟨Ar, x.2.2.length, cr⟩ x.2.2) := Lib.hid (by
      obtain ⟨r0, k0, k1⟩ := HT16.out.er lst x HXL1.out
      rw [HRL.out] at k0
      injection k0 with k0
      subst k0
      exact k1.but (put4_but wd6 gl b ⟨ol, Al, nl, cl, zl, Bl, ml, dl⟩) HT16.out.bl (by decide))
    clear HT16 HBE16 HX16 hS d0 d1 d2 d3 f0 f1 f2 f3
    generalize (((wd6.setCell ⟨gl, b * 4, none⟩ (.bool ol)).setCell ⟨gl, b * 4 + 1, none⟩ (.slice Al nl cl)).setCell ⟨gl, b * 4 + 2, none⟩ (.int .i64 zl)).setCell ⟨gl, b * 4 + 3, none⟩ (.slice Bl ml dl) = w17 at *
    try go_simp
    refine wpAnyH_done (by kernel_rfl) ?_ _
    go_upto_region 17 with fail
    have hd : Below w17.heap.size w17 w17.drew := (Below.refl _ _).drew
    have HT18 := Lib.hid (HT17.out.next hd)
    have HBE18 := Lib.hid (HBE17.out.trans (hd.mono (Nat.le_trans hB HBE17.out.size)))
    have HRKL18 := Lib.hid (HRKL.out.up hd)
    have HX18 : Hid (CX [(g, 1, .slice (some ⟨gs, 0, none⟩) lq ls)] w17.drew) := Lib.hid (by
      obtain ⟨_, c1, _⟩ := HT18.out.c3
      rw [List.length_set, HL1.out, HR1.out] at c1
      intro f hf
      simp only [List.mem_singleton] at hf
      subst hf
      exact c1)
    refine wp_region_held_drew (S := fun W => CX [(g, 1, .slice (some ⟨gs, 0, none⟩) lq ls)] W) (by kernel_rfl) HX18.out (fun hS => ?_)
    clear hd HT17 HBE17 HRKL
    generalize w17.drew = wd8 at *
    refine wpAnyH_take (i := 0) (v := ?_) rfl (by kernel_rfl) (by kernel_rfl) (by kernel_rfl) (fun _ _ _ h => h) (Yields.yieldsIf (Or.inl ⟨by kernel_rfl, ?_⟩)) hS ?_
    rotate_left
    · first | (intro w; go_simp; done) | (intro w; go_simp; with_reducible rfl)
    refine wpAnyH_take (i := 1) (v := ?_) rfl (by kernel_rfl) (by kernel_rfl) (by kernel_rfl) (fun _ _ _ h => h) (Yields.yieldsIf (Or.inl ⟨by kernel_rfl, ?_⟩)) hS ?_
    rotate_left
    · first | (intro w; go_simp; done) | (intro w; go_simp; with_reducible rfl)
    refine wpAnyH_take (i := 2) (v := ?_) rfl (by kernel_rfl) (by kernel_rfl) (by kernel_rfl) (fun _ _ _ h => h) (Yields.yieldsIf (Or.inl ⟨by kernel_rfl, ?_⟩)) hS ?_
    rotate_left
    · first | (intro w; go_simp; done) | (intro w; go_simp; with_reducible rfl)
    refine wpAnyH_take (i := 3) (v := ?_) rfl (by kernel_rfl) (by kernel_rfl) (by kernel_rfl) (fun _ _ _ h => h) (Or.inl ⟨by kernel_rfl, fun W hW => ?_⟩) hS ?_
    rotate_left
    · have f := hW
      simp only [CX, List.mem_cons, List.not_mem_nil, or_false, forall_eq_or_imp, forall_eq] at f
      have p0 := f
      first | (go_simp; done) | (go_simp; with_reducible rfl)
    refine wpAnyH_take (i := 4) (v := ?_) rfl (by kernel_rfl) (by kernel_rfl) (by kernel_rfl) (fun _ _ _ h => h) (Yields.yieldsIf (Or.inl ⟨by kernel_rfl, ?_⟩)) hS ?_
    rotate_left
    · first | (intro w; go_simp; done) | (intro w; go_simp; with_reducible rfl)
    refine wpAnyH_take (i := 5) (v := ?_) rfl (by kernel_rfl) (by kernel_rfl) (by kernel_rfl) (fun _ _ _ h => h) (Yields.yieldsIf (Or.inl ⟨by kernel_rfl, ?_⟩)) hS ?_
    rotate_left
    · first | (intro w; go_simp; done) | (intro w; go_simp; with_reducible rfl)
    refine wpAnyH_take (i := 6) (v := ?_) rfl (by kernel_rfl) (by kernel_rfl) (by kernel_rfl) (fun _ _ _ h => h) (Yields.yieldsIf (Or.inl ⟨by kernel_rfl, ?_⟩)) hS ?_
    rotate_left
    · first | (intro w; go_simp; done) | (intro w; go_simp; with_reducible rfl)
    refine wpAnyH_take (i := 7) (v := ?_) rfl (by kernel_rfl) (by kernel_rfl) (by kernel_rfl) (fun _ _ _ h => h) (Yields.yieldsIf (Or.inl ⟨by kernel_rfl, ?_⟩)) hS ?_
    rotate_left
    · first | (intro w; go_simp; done) | (intro w; go_simp; with_reducible rfl)
    refine wpAnyH_take (i := 8) (v := ?_) rfl (by kernel_rfl) (by kernel_rfl) (by kernel_rfl) (fun _ _ _ h => h) (Or.inl ⟨by kernel_rfl, fun W hW => ?_⟩) hS ?_
    rotate_left
    · have f := hW
      simp only [CX, List.mem_cons, List.not_mem_nil, or_false, forall_eq_or_imp, forall_eq] at f
      have p0 := f
      first | (go_simp; done) | (go_simp; with_reducible rfl)
    refine wpAnyH_take (i := 9) (v := ?_) rfl (by kernel_rfl) (by kernel_rfl) (by kernel_rfl) (fun _ _ _ h => h) (Yields.yieldsIf (Or.inl ⟨by kernel_rfl, ?_⟩)) hS ?_
    rotate_left
    · first | (intro w; go_simp; done) | (intro w; go_simp; with_reducible rfl)
    refine wpAnyH_take (i := 10) (v := ?_) rfl (by kernel_rfl) (by kernel_rfl) (by kernel_rfl) (fun _ _ _ h => h) (Yields.yieldsIf (Or.inl ⟨by kernel_rfl, ?_⟩)) hS ?_
    rotate_left
    · first | (intro w; go_simp; done) | (intro w; go_simp; with_reducible rfl)
    try go_simp
    refine wpAnyH_ready (rs := [11]) (by kernel_rfl) (by simp) ?_
    refine AllReadyH.cons rfl (fun K hK => ?_) AllReadyH.nil
    have k0 := HT18.out.c1 HRL.out
    simp only at k0
    go_simp
    have hS3 : CX [(g, 1, .slice (some ⟨gs, 0, none⟩) lq ls)] wd8 := HX18.out
    clear k0
    refine hK.out _ _ hS3 (fun hS => ?_)
    clear hK K hS3
    refine wpAnyH_take (i := 12) (v := ?_) rfl (by kernel_rfl) (by kernel_rfl) (by kernel_rfl) (fun _ _ _ h => h) (Yields.yieldsIf (Or.inl ⟨by kernel_rfl, ?_⟩)) hS ?_
    rotate_left
    · first | (intro w; go_simp; done) | (intro w; go_simp; with_reducible rfl)
    try go_simp
    refine wpAnyH_ready (rs := [13]) (by kernel_rfl) (by simp) ?_
    refine AllReadyH.cons rfl (fun K hK => ?_) AllReadyH.nil
    have k1 := HT18.out.c1 HRB.out
    have f1 := HT18.out.bs.frozen b
    go_simp
    go_wp2
    refine hK.out _ _ (HX18.out.but (set_but wd8 gs b (.slice Ar x.2.2.length cr)) (by simp only [List.mem_singleton, forall_eq]; omega)) (fun hS => ?_)
    clear hK K
    have HT19 : Hid (Stx (wd8.setCell ⟨gs, b, none⟩ (.slice Ar x.2.2.length cr)) B g gl gs (C1.set b ⟨ol, Al, nl, cl, zl, Bl, ml, dl⟩) (R1.set b ⟨Ar, x.2.2.length, cr⟩) (Q1.set b x) (Q1.set b x) n) := Lib.hid (by
      have hq2 : (Q1.set b (x.1, x.2.1, pb.2.2))[b]? = some (x.1, x.2.1, pb.2.2) := by rw [List.getElem?_set, if_pos rfl, if_pos (List.getElem?_eq_some_iff.1 HPB.out).1]
      have h1 := HT18.out.see hq2 ⟨Ar, x.2.2.length, cr⟩ (l := x.2.2) HRKL18.out
      rw [List.set_set] at h1
      exact h1.x)
    have HBE19 := Lib.hid (HBE18.out.setCell (p := ⟨gs, b, none⟩) HT18.out.hB.2.2 (.slice Ar x.2.2.length cr))
    clear HT18 HBE18 HX18 HRKL18 hS k1 f1
    generalize wd8.setCell ⟨gs, b, none⟩ (.slice Ar x.2.2.length cr) = w19 at *
    try go_simp
    refine wpAnyH_done (by kernel_rfl) ?_ _
    have hQB : (Q1.set b x).length = lq := by rw [List.length_set]; exact HL1.out
    have hCB : (C1.set b ⟨ol, Al, nl, cl, zl, Bl, ml, dl⟩).length = lc := by rw [List.length_set]; exact HC1.out
    have hRB : (R1.set b ⟨Ar, x.2.2.length, cr⟩).length = ls := by rw [List.length_set]; exact HR1.out
    obtain ⟨c0, c1, c2⟩ := HT19.out.c3
    rw [hQB, hCB] at c0
    have f0 := HT19.out.st.frozen 0
    have HT20 := HT19.out.cutL lst (by rw [hQB]; omega)
    rw [hCB] at HT20
    have hq20 : ((Q1.set b x).take lst).length = lst := by rw [List.length_take, hQB]; omega
    obtain ⟨e0, e1', e2⟩ := HT20.c3
    rw [hQB, hRB] at e1'
    have f1 := HT20.st.frozen 1
    have HT21 := HT20.cutR lst (by rw [hQB]; omega)
    rw [hRB] at HT21
    have HT22 := Lib.hid HT21.t
    have HBE22 := Lib.hid ((HBE19.out.setCell (p := ⟨g, 0, none⟩) HT19.out.hB.1 (.slice (some ⟨gl, 0, none⟩) lst lc)).setCell (p := ⟨g, 1, none⟩) HT19.out.hB.1 (.slice (some ⟨gs, 0, none⟩) lst ls))
    clear HT20 HT21 hQB hCB hRB hq20 e0 e2 c1 c2 HT19 HBE19
    go_wp2
    go_ret
    rw [HRES.out]
    exact ⟨rfl, ⟨gl, gs, _, _, HT22.out⟩, HBE22.out⟩
end Go.Proofs.YtoaglkjpjolacaaDoor.S
