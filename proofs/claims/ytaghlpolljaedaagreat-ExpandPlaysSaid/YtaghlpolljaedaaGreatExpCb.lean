/-
  Several texts in one: ExpC11, ExpC12, ExpC13, ExpC14, ExpC15, ExpC16, ExpC17. Each one's own head tells its conditions.
-/
import Derived.Test.YtaghlpolljaedaaGreatExpCa
/-
  Contract of the code's cond: clause by clause. Conditions: sizes; the row of data may be.
-/
namespace Go.Proofs.YtaghlpolljaedaaGreat
open Go.RowKit
namespace EW
open LX SX RW6 EX
open RX (Nd)
theorem Env.step {w0 w W : World} {Z Z' : List Nat} {q mb : Nat} {dv : Value} (h : Env w0 w Z q dv mb) (f : MM.Far [] w W) (hZ : ∀ b ∈ Z', b ∈ Z ∨ w.heap.size ≤ b) (hz : ∀ b ∈ Z', b < W.heap.size) : Env w0 W Z' q dv mb := by
  have h2 := h.to f
  refine ⟨h2.far, fun b hb => ?_, hz, h2.c0, h2.c1, (h.map.more hZ).far f (by simp)⟩
  rcases hZ b hb with h1 | h1
  · exact h.low b h1
  · have := h.far.size; omega
section
variable {w0 w : World} {Z : List Nat} {q mb : Nat} {DA : Option Addr} {n c : Nat} {ns : List Nd}
set_option maxRecDepth 20000 in
set_option maxHeartbeats 4000000 in
theorem cond_cons (h : Env w0 w Z q (.slice DA n c) mb) (hN : NdR w0 DA ns) (hn : ns.length = n) (hok : Ok ns) (a : Int) {v : Value} {i : Nat} {l : List Nat} (hl : Sl w Z v (ints (i :: l))) (hi : i < n) :
    Calls Tryz.prog 53 #[ptr q, num a, v] w (PlanQ w Z q (condP ns a (i :: l))) := by
  have hz := h.z
  have hl2 := hl
  rw [int_head] at hl2
  obtain ⟨g, o, d0, rfl, hc, hc1, hc2, hg, hgz, _⟩ := hl2.cons
  obtain ⟨m0, hm0⟩ : ∃ m0, (ints l).length = m0 := ⟨_, rfl⟩
  rw [hm0] at hl ⊢
  have HM0 := Lib.hid hm0
  obtain ⟨W, hW⟩ : ∃ W, ((((w.alloc (.cells #[ptr q] 44)).alloc (.cells #[num a] 3)).alloc (.cells #[.slice (some ⟨g, o, none⟩) (m0 + 1) d0] 23)).alloc zP) = W := ⟨_, rfl⟩
  obtain ⟨k, hk⟩ : ∃ k, w.heap.size = k := ⟨_, rfl⟩
  have F0 : MM.Far [] w W := by rw [← hW]; exact (((((MM.Far.refl [] w).alloc _).alloc _).alloc _).alloc _)
  have B1 : Bx W ((k + 1 + 1 + 1) :: Z) k 44 (ptr q) := Bx.cons (by rw [← hW]; exact ((((bx_new 44 (ptr q) hk hz).alloc _).alloc _).alloc _)) (by omega)
  have B2 : Bx W ((k + 1 + 1 + 1) :: Z) (k + 1) 3 (num a) := Bx.cons (by rw [← hW]; exact (((bx_new 3 (num a) (by simp only [sz_alloc, hk]) (z_alloc hz)).alloc _).alloc _)) (by omega)
  have B3 : Bx W ((k + 1 + 1 + 1) :: Z) (k + 1 + 1) 23 (.slice (some ⟨g, o, none⟩) (m0 + 1) d0) := Bx.cons (by rw [← hW]; exact ((bx_new 23 (.slice (some ⟨g, o, none⟩) (m0 + 1) d0) (by simp only [sz_alloc, hk]) (z_alloc (z_alloc hz))).alloc _)) (by omega)
  have HB : Hid (PlBox W (k + 1 + 1 + 1)) := Lib.hid (by rw [← hW]; exact PlBox.new (by simp only [sz_alloc, hk]))
  have HZ : Hid (∀ x ∈ (k + 1 + 1 + 1) :: Z, x < W.heap.size) := Lib.hid (by rw [← hW]; exact z_cons (by simp only [sz_alloc, hk]) (z_alloc (z_alloc (z_alloc hz))))
  have HF := Lib.hid F0
  have HK := Lib.hid hk
  have MZ : ∀ x ∈ (k + 1 + 1 + 1) :: Z, x ∈ Z ∨ w.heap.size ≤ x := fun x hx => (List.mem_cons.1 hx).elim (fun e => .inr (by omega)) .inl
  have hE := h.step F0 MZ HZ.out
  obtain ⟨db, d1, LA, lc, rfl, _, z0, z1, z2, z3, z4, hS2⟩ := hE.dat hN (i := i) (by omega)
  have HDAT := Lib.hid (fun (wr : World) (f : MM.Far [] W wr) (p : Nat) (hp : p < ns.length) => (hE.to f).dat hN hp)
  have HKID : Hid (∀ p ∈ (ndAt ns i).l, p < ns.length) := Lib.hid (fun p hp => (kid hok hp).2)
  have x0 := (h.to F0).c0
  have x1 := B1.at
  have x2 := B2.at
  have x3 := B3.at
  have x4 := far_cell F0 hc
  have hi0 : (0 : Int) ≤ (i : Int) := by omega
  have hi1 : (i : Int) < (n : Int) := by omega
  have HENV := Lib.hid h
  clear hE
  obtain ⟨pl, hpl⟩ : ∃ pl, condP ns a (i :: l) = pl := ⟨_, rfl⟩
  rw [hpl]
  unfold condP at hpl
  simp only [] at hpl
  generalize ndAt ns i = d at z0 z1 z2 z3 z4 hS2 HKID hpl
  obtain ⟨kd, at_, nn, s, ll⟩ := d
  simp only at z0 z1 z2 z3 z4 hS2 HKID hpl
  obtain ⟨m1, hm1⟩ : ∃ m1, ll.length = m1 := ⟨_, rfl⟩
  rw [hm1] at z4 hS2 hpl
  have HPL := Lib.hid hpl
  have HCOND : Hid (Is W ((k + 1 + 1 + 1) :: Z) q (.func (.func 91) #[] #[ptr k, ptr (k + 1), ptr (k + 1 + 1)]) (.cond a l)) := Lib.hid (Is.cond B1 B2 B3 ((hl.more MZ).far F0 (by simp)))
  clear hl hl2 hz F0 MZ B1 B2 B3 hm0 hc hc1 hc2 hg hgz h hpl
  subst hW; subst hk
  unfold zP ptr num at *
  go_enter Tryz.func53, Tryz.ntmps53
  go_wp2
  generalize (((w.alloc (.cells #[.pointer (some ⟨q, 0, none⟩)] 44)).alloc (.cells #[.int .i64 a] 3)).alloc (.cells #[.slice (some ⟨g, o, none⟩) (m0 + 1) d0] 23)).alloc (.cells #[.bool false, .int .u8 0, .int .i64 0, .int .i64 0, .int .i64 0, .string ⟨#[]⟩, .slice none 0 0, .int .u64 0, .slice none 0 0, .slice none 0 0, .nilFunc] 78) = W at *
  go_region_held3 (fun w' => w'.cell? ⟨w.heap.size, 0, none⟩ = some (.pointer (some ⟨q, 0, none⟩)) ∧ w'.cell? ⟨w.heap.size + 1 + 1, 0, none⟩ = some (.slice (some ⟨g, o, none⟩) (m0 + 1) d0) ∧ w'.cell? ⟨q, 0, none⟩ = some (.slice (some ⟨db, d1, none⟩) n c) ∧ w'.cell? ⟨g, o, none⟩ = some (.int .i64 i) ∧
    w'.cell? ⟨db, d1 + i * 5, none⟩ = some (.int .u8 kd) ∧ w'.cell? ⟨db, d1 + i * 5 + 1, none⟩ = some (.int .i64 at_) ∧ w'.cell? ⟨db, d1 + i * 5 + 2, none⟩ = some (.int .i64 nn) ∧ w'.cell? ⟨db, d1 + i * 5 + 3, none⟩ = some (.string s) ∧ w'.cell? ⟨db, d1 + i * 5 + 4, none⟩ = some (.slice LA m1 lc)) (go_keep) (fail)
  obtain ⟨W2, hW2⟩ : ∃ W2, (W.alloc (.cells #[.int .u8 kd, .int .i64 at_, .int .i64 nn, .string s, .slice LA m1 lc] 53)).drew = W2 := ⟨_, rfl⟩
  have G0 : MM.Far [] W W2 := by rw [← hW2]; exact ((MM.Far.refl [] W).alloc _).drew
  have NB : MM.Row W2 W.heap.size 53 [.int .u8 kd, .int .i64 at_, .int .i64 nn, .string s, .slice LA m1 lc] := by rw [← hW2]; exact (MM.Row.new W 53 [.int .u8 kd, .int .i64 at_, .int .i64 nn, .string s, .slice LA m1 lc]).drew
  obtain ⟨nb, hnb⟩ : ∃ nb, W.heap.size = nb := ⟨_, rfl⟩
  rw [hW2]
  rw [hnb] at NB ⊢
  have t0 := far_cell G0 x0
  have t1 := far_cell G0 x1
  have t2 := far_cell G0 x2
  have t3 := far_cell G0 x3
  have t4 := far_cell G0 x4
  have b1 := NB.at (i := 1) rfl
  have b4 := NB.at (i := 4) rfl
  have HG0 := Lib.hid G0
  have HNB := Lib.hid NB
  have HZ2 := Lib.hid (z_far HZ.out G0)
  have HSL := Lib.hid (hS2.far G0 (by simp))
  have HDAT2 := Lib.hid (fun (wr : World) (f : MM.Far [] W2 wr) (p : Nat) (hp : p < ns.length) => HDAT.out wr (G0.trans f (by simp)) p hp)
  have hne : ¬ (w.heap.size + 1 + 1 + 1 = nb) := by have := HZ.out (w.heap.size + 1 + 1 + 1) (List.mem_cons_self ..); omega
  clear hW2 G0 NB x0 x1 x2 x3 x4 z0 z1 z2 z3 z4 hS2
  by_cases hlt : m1 < 2
  · have HE : Hid (pl = .bad at_) := Lib.hid (by have := HPL.out; rw [if_pos hlt] at this; exact this.symm)
    have hd : (m1 : Int) < 2 := by omega
    go_wp2_with (go_at_call 55; refine (wrong_any (Z := (w.heap.size + 1 + 1 + 1) :: Z) _ q at_).mono ?_; rintro e wp ⟨v, rfl, hI, hFp⟩; obtain ⟨bad, kind, at_, nn, s, A, m, c, A2, m2, c2, ins, rfl, hins⟩ := hI.form; have HFp := Lib.hid (MM.Far.trans (HG0.out) hFp (by simp)); have HBp := Lib.hid (HB.out.far HFp.out (by simp)); have HFq := Lib.hid (HF.out.trans HFp.out (by simp)); have HI := Lib.hid hI; clear hI; obtain ⟨v0, v1, v2, v3, v4, v5, v6, v7, v8, v9, v10, y0, y1, y2, y3, y4, y5, y6, y7, y8, y9, y10, hfz⟩ := HBp.out.cells)
    rw [HE.out]
    exact fin_pl rfl rfl rfl HBp.out HFq.out (by omega) HI.out
  · have hpl2 := HPL.out
    rw [if_neg hlt] at hpl2
    have HPL := Lib.hid hpl2
    clear hpl2
    have hd : ¬ ((m1 : Int) < 2) := by omega
    obtain ⟨x, y, t, rfl⟩ := two (r := ll) (by omega)
    have hS3 := HSL.out
    rw [int_head] at hS3
    obtain ⟨g1, o1, d2, e, hc, hc1, hc2, hg, hgz, hS4⟩ := hS3.cons
    obtain ⟨m2, hm2⟩ : ∃ m2, (ints (y :: t)).length = m2 := ⟨_, rfl⟩
    rw [hm2] at e hS4
    injection e with e1 e2 e3
    subst e1; subst e2; subst e3
    have hsl := fun X => slice_ints g1 o1 m2 lc X
    obtain ⟨A', hA'⟩ : ∃ A', (if lc = 1 then some (⟨g1, o1, none⟩ : Addr) else some ⟨g1, o1 + 1, none⟩) = A' := ⟨_, rfl⟩
    rw [hA'] at hS4 hsl
    have HS4 := Lib.hid (hS4.far ((MM.Far.refl [] W2).drew) (by simp))
    simp only [List.getD_cons_zero, List.drop_succ_cons, List.drop_zero] at HPL
    have HBODY := Lib.hid (body_any W2.drew q (z_drew HZ2.out) at_ HS4.out)
    have e0 : ¬ (w.heap.size + 1 + 1 + 1) = w.heap.size := by omega
    have e1 : ¬ (w.heap.size + 1 + 1) = w.heap.size := by omega
    have e2 : ¬ (w.heap.size + 1 + 1 + 1) = g1 := fun e => hgz (by rw [← e]; exact List.mem_cons_self ..)
    clear hS3 hS4 hA' hc1 hc2 hg hgz HSL HS4
    go_wp2
    go_region_held3 (fun w' => w'.cell? ⟨w.heap.size, 0, none⟩ = some (.pointer (some ⟨q, 0, none⟩)) ∧ w'.cell? ⟨nb, 1, none⟩ = some (.int .i64 at_) ∧ w'.cell? ⟨nb, 4, none⟩ = some (.slice (some ⟨g1, o1, none⟩) (m2 + 1) lc)) (first | (with_reducible assumption) | go_keep) (first
      | (go_at_call 48; refine HBODY.out.mono ?_; rintro e w1 ⟨v1, rfl, hI1, hF1⟩; obtain ⟨f1, l1, rfl⟩ := hI1.func; have hk1 := keep3 hF1 (by assumption); have hFx := Lib.hid hF1; have HF1 := Lib.hid (HG0.out.trans ((MM.Far.refl [] W2).drew.trans hF1 (by simp)) (by simp)); have HI1 := Lib.hid hI1; clear hF1 hI1))
    obtain ⟨db', d1', LA3, lc3, e, _, _, _, _, y3, _, _⟩ := HDAT.out w1 HF1.out x (HKID.out x (by simp))
    injection e with e
    injection e with e1 e2
    subst e1; subst e2
    have hx0 : (0 : Int) ≤ (x : Int) := by omega
    have hx1 : (x : Int) < (n : Int) := by have := HKID.out x (by simp); omega
    generalize (ndAt ns x).s = ss at y3 HPL
    have HFb := Lib.hid (MM.Far.trans ((MM.Far.refl [] W2).drew) (show MM.Far [] W2.drew w1 from hFx.out) (by simp))
    have u0 := far_cell HFb.out t0
    have u1 := far_cell HFb.out t1
    have u2 := far_cell HFb.out t2
    have u3 := far_cell HFb.out t3
    have ub1 := far_cell HFb.out b1
    have ub4 := far_cell HFb.out b4
    have uc := far_cell HFb.out hc
    by_cases he : ss = nElse
    · subst he
      have HPL := Lib.hid (show (if l ≠ [] then Pl.bad at_ else .ins (body at_ (y :: t))) = pl by have := HPL.out; rw [if_neg (by omega), if_neg (by simp)] at this; exact this)
      unfold nElse at y3
      have HB1 := Lib.hid (HB.out.far HF1.out (by simp))
      obtain ⟨v0, v1, v2, v3, v4, v5, v6, v7, v8, v9, v10, y0', y1', y2', y3', y4', y5', y6', y7', y8', y9', y10', hfz⟩ := HB1.out.cells
      by_cases hl0 : m0 = 0
      · have HE : Hid (pl = .ins (body at_ (y :: t))) := Lib.hid (by
          have : l = [] := List.eq_nil_of_length_eq_zero (by rw [← ints_len, HM0.out, hl0])
          have h2 := HPL.out
          rw [if_neg (by simp [this])] at h2
          exact h2.symm)
        have hd2 : ¬ ((1 : Int) < (m0 : Int) + 1) := by omega
        go_wp2
        go_quiet (fail)
        go_wp2
        rw [HE.out]
        exact fin_pl (w1 := w1.drewN nq) rfl rfl rfl (HB1.out.far ((MM.Far.refl [] w1).drewN nq) (by simp)) ((HF.out.trans HF1.out (by simp)).drewN nq) (by omega) ⟨_, rfl, HI1.out.far ((MM.Far.refl [] w1).drewN nq) (by simp)⟩
      · have HE : Hid (pl = .bad at_) := Lib.hid (by
          have h2 := HPL.out
          rw [if_pos (fun h => hl0 (by rw [← HM0.out, h]; rfl))] at h2
          exact h2.symm)
        have hd2 : (1 : Int) < (m0 : Int) + 1 := by omega
        clear y0' y1' y2' y3' y4' y5' y6' y7' y8' y9' y10' hfz
        go_wp2
        go_quiet (fail)
        go_wp2_with (go_at_call 55; refine (wrong_any (Z := (w.heap.size + 1 + 1 + 1) :: Z) _ q at_).mono ?_; rintro e wp ⟨v, rfl, hI, hFp⟩; obtain ⟨bad, kind, at_, nn, s, A, m, c, A2, m2, c2, ins, rfl, hins⟩ := hI.form; have HFp := Lib.hid (MM.Far.trans ((HF1.out.drewN nq)) hFp (by simp)); have HBp := Lib.hid (HB.out.far HFp.out (by simp)); have HFq := Lib.hid (HF.out.trans HFp.out (by simp)); have HI := Lib.hid hI; clear hI; obtain ⟨v0, v1, v2, v3, v4, v5, v6, v7, v8, v9, v10, y0, y1, y2, y3, y4, y5, y6, y7, y8, y9, y10, hfz⟩ := HBp.out.cells)
        rw [HE.out]
        exact fin_pl rfl rfl rfl HBp.out HFq.out (by omega) HI.out
    · have hb : (ss.toList == [101, 108, 115, 101]) = false := by have := beq_list he; rw [Lib.toList_data nElse] at this; exact this
      have HPL := Lib.hid (show choosePl a (.dat x) (body at_ (y :: t)) (.cond a l) = pl by have := HPL.out; rw [if_neg (by omega), if_pos he] at this; exact this)
      go_wp2
      go_quiet (fail)
      go_wp2
      go_region_held3 (fun w' => w'.cell? ⟨w.heap.size + 1, 0, none⟩ = some (.int .i64 a) ∧ w'.cell? ⟨w.heap.size, 0, none⟩ = some (.pointer (some ⟨q, 0, none⟩)) ∧ w'.cell? ⟨nb, 4, none⟩ = some (.slice (some ⟨g1, o1, none⟩) (m2 + 1) lc) ∧ w'.cell? ⟨g1, o1, none⟩ = some (.int .i64 x)) (first | (with_reducible assumption) | go_keep) (first
        | (go_at_call 61; refine (choose_any _ q (z_far HZ.out HF4.out) a HI4.out (HI1.out.far HFc.out (by simp)) (HCOND.out.far HF4.out (by simp))).mono ?_; rintro e w3 ⟨v3, rfl, hI3, hF3⟩; obtain ⟨bad, kind, at2, nn2, s2, A, m, c, A2, m2', c2, ins, rfl, hins⟩ := hI3.form; have hk3 := keep4 hF3 (by assumption); have HF3 := Lib.hid (HF4.out.trans hF3 (by simp)); have HI3 := Lib.hid hI3; have HB3 := Lib.hid (HB.out.far HF3.out (by simp)); clear hF3 hI3; obtain ⟨v0, v1, v2, v3, v4, v5, v6, v7, v8, v9, v10, y0, y1, y2, y3, y4, y5, y6, y7, y8, y9, y10, hfz⟩ := HB3.out.cells)
        | (go_at_call 62; refine (datum_any _ (Z := (w.heap.size + 1 + 1 + 1) :: Z) q (z_far (z_far HZ.out HF1.out) (((MM.Far.refl [] w1).drewN nq).drew)) x).mono ?_; rintro e w4 ⟨v4, rfl, hI4, hF4⟩; obtain ⟨f4, l4, rfl⟩ := hI4.func; have hk4 := keep4 hF4 (by assumption); have HFc := Lib.hid ((((MM.Far.refl [] w1).drewN nq).drew).trans hF4 (by simp)); have HF4 := Lib.hid (HF1.out.trans HFc.out (by simp)); have HI4 := Lib.hid hI4; clear hF4 hI4))
      go_wp2
      rw [← HPL.out]
      exact fin_pl rfl rfl rfl HB3.out (HF.out.trans HF3.out (by simp)) (by omega) HI3.out
end
end EW
end Go.Proofs.YtaghlpolljaedaaGreat
/-
  Contracts of the code's shapes that are made of parts alone: quote, begin, cond, else, and, or, when, unless, if. Conditions: sizes.
-/
namespace Go.Proofs.YtaghlpolljaedaaGreat
open Go.RowKit
namespace EW
open LX SX RW6 EX
open RX (Nd)
theorem sl_some {w : World} {Z : List Nat} {A : Option Addr} {n c k : Nat} {vs : List Value} {u : Value} (h : Sl w Z (.slice A n c) vs) (hu : vs[k]? = some u) : ∃ g o, A = some ⟨g, o, none⟩ := by
  obtain ⟨A', c', e, _, _, h3⟩ := h
  injection e with e1
  obtain ⟨g, o, e2, _⟩ := h3 k u hu
  exact ⟨g, o, e1.trans e2⟩
theorem sl_at {w : World} {Z : List Nat} {g o n c k : Nat} {vs : List Value} {u : Value} (h : Sl w Z (.slice (some ⟨g, o, none⟩) n c) vs) (hu : vs[k]? = some u) : w.cell? ⟨g, o + k, none⟩ = some u := by
  obtain ⟨A', c', e, _, _, h3⟩ := h
  injection e with e1
  obtain ⟨g', o', e2, _, _, hc⟩ := h3 k u hu
  rw [← e1] at e2
  injection e2 with e2
  injection e2 with ea eb
  subst ea; subst eb
  exact hc
theorem sl_out {w : World} {Z : List Nat} {g o n c k : Nat} {vs : List Value} {u : Value} (h : Sl w Z (.slice (some ⟨g, o, none⟩) n c) vs) (hu : vs[k]? = some u) : g ∉ Z ∧ g < w.heap.size := by
  obtain ⟨A', c', e, _, _, h3⟩ := h
  injection e with e1
  obtain ⟨g', o', e2, h1, h2, _⟩ := h3 k u hu
  rw [← e1] at e2
  injection e2 with e2
  injection e2 with ea eb
  subst ea
  exact ⟨h1, h2⟩
theorem fin_pl_drew {fn : Func} {a : Act} {w w1 : World} {Z : List Nat} {q b t : Nat} {pl : Pl} {bad : Bool} {kind at_ n : Int} {s : ByteArray} {pv parts ins : Value} (hr : fn.results = #[.cell t 78]) (ha : a.tmps.getD t undef = .pointer (some ⟨b, 0, none⟩)) (hd : a.defers = [])
    (hB : PlBox w1 b) (hF : MM.Far [] w w1) (hb : w.heap.size ≤ b) (h : IsPl w1 (b :: Z) q (.agg #[.bool bad, .int .u8 kind, .int .i64 at_, .int .i64 n, .int .i64 0, .string s, pv, .int .u64 0, .slice none 0 0, parts, ins]) pl) :
    bodyPost Tryz.prog fn (PlanQ w Z q pl) .ret a (setPl w1 b bad kind at_ n s pv parts ins).drew := by
  refine bodyPost_cell (f := ⟨kind, at_, n, s, [], []⟩) hr ha hd (hB.set bad kind at_ n s pv parts ins).drew ⟨_, rfl, ?_, ?_⟩
  · exact (h.far (far_setPl w1 b bad kind at_ n s pv parts ins).drew (by simp)).more (fun x hx => .inl (List.mem_cons_of_mem _ hx))
  · exact (hF.trans (far_setPl w1 b bad kind at_ n s pv parts ins) (fun x hx hl => by
      have : x = b := by simpa using hx
      omega)).drew
section
variable (w : World) {Z : List Nat} (q : Nat) (hz : ∀ b ∈ Z, b < w.heap.size)
include hz
set_option maxRecDepth 20000 in
set_option maxHeartbeats 4000000 in
theorem cond_nil (a : Int) {v : Value} (hl : Sl w Z v (ints [])) : Calls Tryz.prog 53 #[ptr q, num a, v] w (PlanQ w Z q (truth a 0)) := by
  obtain ⟨A0, d0, rfl, _⟩ := hl.form
  have hlen : (ints ([] : List Nat)).length = 0 := rfl
  rw [hlen]
  obtain ⟨W, hW⟩ : ∃ W, ((((w.alloc (.cells #[ptr q] 44)).alloc (.cells #[num a] 3)).alloc (.cells #[.slice A0 0 d0] 23)).alloc zP) = W := ⟨_, rfl⟩
  obtain ⟨k, hk⟩ : ∃ k, w.heap.size = k := ⟨_, rfl⟩
  have F0 : MM.Far [] w W := by rw [← hW]; exact (((((MM.Far.refl [] w).alloc _).alloc _).alloc _).alloc _)
  have B1 : Bx W ((k + 1 + 1 + 1) :: Z) k 44 (ptr q) := Bx.cons (by rw [← hW]; exact ((((bx_new 44 (ptr q) hk hz).alloc _).alloc _).alloc _)) (by omega)
  have B2 : Bx W ((k + 1 + 1 + 1) :: Z) (k + 1) 3 (num a) := Bx.cons (by rw [← hW]; exact (((bx_new 3 (num a) (by simp only [sz_alloc, hk]) (z_alloc hz)).alloc _).alloc _)) (by omega)
  have B3 : Bx W ((k + 1 + 1 + 1) :: Z) (k + 1 + 1) 23 (.slice A0 0 d0) := Bx.cons (by rw [← hW]; exact ((bx_new 23 (.slice A0 0 d0) (by simp only [sz_alloc, hk]) (z_alloc (z_alloc hz))).alloc _)) (by omega)
  have HB : Hid (PlBox W (k + 1 + 1 + 1)) := Lib.hid (by rw [← hW]; exact PlBox.new (by simp only [sz_alloc, hk]))
  have HZ : Hid (∀ x ∈ (k + 1 + 1 + 1) :: Z, x < W.heap.size) := Lib.hid (by rw [← hW]; exact z_cons (by simp only [sz_alloc, hk]) (z_alloc (z_alloc (z_alloc hz))))
  have HF := Lib.hid F0
  have HK := Lib.hid hk
  have MZ : ∀ x ∈ (k + 1 + 1 + 1) :: Z, x ∈ Z ∨ w.heap.size ≤ x := fun x hx => (List.mem_cons.1 hx).elim (fun e => .inr (by omega)) .inl
  have HC := Lib.hid (truth_any W q HZ.out a 0)
  have x2 := B2.at
  have x3 := B3.at
  clear hl hz F0 MZ B1 B2 B3 hlen
  subst hW; subst hk
  unfold zP num at *
  try unfold ptr at *
  go_enter Tryz.func53, Tryz.ntmps53
  go_wp2_with (first
    | (go_at_call 63; refine HC.out.mono ?_; rintro e w1 ⟨v1, rfl, hI1, hF1⟩; obtain ⟨ba, bn, rfl, h1, h2⟩ := is_tr hI1; have HT := Lib.hid (tr_call w1 q h1 h2); have HF1 := Lib.hid hF1; clear hI1 h1 h2 hF1)
    | (go_at_call 100; refine HT.out.mono ?_; rintro e wp ⟨v, rfl, hI, hFp⟩; obtain ⟨bad, kind, at_, nn, s, A, m, c, A2, m2, c2, ins, rfl, hins⟩ := hI.form; have HFp := Lib.hid (MM.Far.trans (HF1.out) hFp (by simp)); have HBp := Lib.hid (HB.out.far HFp.out (by simp)); have HFq := Lib.hid (HF.out.trans HFp.out (by simp)); have HI := Lib.hid hI; clear hI; obtain ⟨v0, v1, v2, v3, v4, v5, v6, v7, v8, v9, v10, y0, y1, y2, y3, y4, y5, y6, y7, y8, y9, y10, hfz⟩ := HBp.out.cells))
  exact fin_pl rfl rfl rfl HBp.out HFq.out (by omega) HI.out
variable {ns : List Nd}
set_option maxRecDepth 20000 in
set_option maxHeartbeats 4000000 in
theorem tail_cond {bx ba bl : Nat} {a : Int} {v : Value} {i : Nat} {l : List Nat} (h1 : Bx w Z bx 44 (ptr q)) (h2 : Bx w Z ba 3 (num a)) (h3 : Bx w Z bl 23 v) (h4 : Sl w Z v (ints (i :: l)))
    (HC0 : ∀ (x : World) (Z2 : List Nat) (v' : Value), MM.Far [] w x → (∀ b ∈ Z2, b ∈ Z ∨ w.heap.size ≤ b) → (∀ b ∈ Z2, b < x.heap.size) → Sl x Z2 v' (ints l) → Calls Tryz.prog 53 #[ptr q, num a, v'] x (PlanQ x Z2 q (condP ns a l))) :
    Calls Tryz.prog 91 #[ptr bx, ptr ba, ptr bl] w (PlanQ w Z q (condP ns a l)) := by
  obtain ⟨W, hW⟩ : ∃ W, (w.alloc zP) = W := ⟨_, rfl⟩
  obtain ⟨k, hk⟩ : ∃ k, w.heap.size = k := ⟨_, rfl⟩
  have F0 : MM.Far [] w W := by rw [← hW]; exact ((MM.Far.refl [] w).alloc _)
  have HB : Hid (PlBox W k) := Lib.hid (by rw [← hW]; exact PlBox.new hk)
  have HZ : Hid (∀ x ∈ k :: Z, x < W.heap.size) := Lib.hid (by rw [← hW]; exact z_cons hk hz)
  have HF := Lib.hid F0
  have HK := Lib.hid hk
  have MZ : ∀ x ∈ k :: Z, x ∈ Z ∨ w.heap.size ≤ x := fun x hx => (List.mem_cons.1 hx).elim (fun e => .inr (by omega)) .inl
  have g1 := (h1.far F0 (by simp)).at
  have g2 := (h2.far F0 (by simp)).at
  have g3 := (h3.far F0 (by simp)).at
  have hne1 : ¬ k = ba := by have := h2.lt; omega
  have hne2 : ¬ k = bx := by have := h1.lt; omega
  have hne3 : ¬ k = bl := by have := h3.lt; omega
  have h4b := (h4.more MZ).far F0.drew (by simp)
  rw [int_head] at h4b
  obtain ⟨g, o, c0, rfl, hc, hc1, hc2, hg, hgz, hS⟩ := h4b.cons
  obtain ⟨m0, hm0⟩ : ∃ m0, (ints l).length = m0 := ⟨_, rfl⟩
  rw [hm0] at h3 g3 hS
  have hsl := fun X => slice_ints g o m0 c0 X
  obtain ⟨A', hA'⟩ : ∃ A', (if c0 = 1 then some (⟨g, o, none⟩ : Addr) else some ⟨g, o + 1, none⟩) = A' := ⟨_, rfl⟩
  rw [hA'] at hS hsl
  have HC := Lib.hid (HC0 W.drew (k :: Z) (.slice A' m0 (c0 - 1)) F0.drew MZ (z_drew HZ.out) hS)
  clear h1 h2 h3 h4 h4b hz F0 MZ hm0 hc hc1 hc2 hgz hg hS hA' HC0
  subst hW; subst hk
  unfold zP ptr num at *
  go_enter Tryz.func91, Tryz.ntmps91
  go_wp2
  generalize w.alloc (.cells #[.bool false, .int .u8 0, .int .i64 0, .int .i64 0, .int .i64 0, .string ⟨#[]⟩, .slice none 0 0, .int .u64 0, .slice none 0 0, .slice none 0 0, .nilFunc] 78) = W at *
  go_region_held3 (fun w' => w'.cell? ⟨ba, 0, none⟩ = some (.int .i64 a) ∧ w'.cell? ⟨bx, 0, none⟩ = some (.pointer (some ⟨q, 0, none⟩)) ∧ w'.cell? ⟨bl, 0, none⟩ = some (.slice (some ⟨g, o, none⟩) (m0 + 1) c0)) (first | (with_reducible assumption) | go_keep) (first
    | (go_at_call 53; (with_reducible refine HC.out.mono ?_); rintro e w3 ⟨v3, rfl, hI3, hF3⟩; obtain ⟨bad, kind, at_, nn, s, A, m, c, A2, m2, c2, ins, rfl, hins⟩ := hI3.form; have hk3 := keep3 hF3 (by assumption); have HF3 := Lib.hid (MM.Far.trans ((MM.Far.refl [] W).drew) hF3 (by simp)); have HI3 := Lib.hid hI3; have HB3 := Lib.hid (HB.out.far HF3.out (by simp)); clear hF3 hI3; obtain ⟨v0, v1, v2, v3, v4, v5, v6, v7, v8, v9, v10, y0, y1, y2, y3, y4, y5, y6, y7, y8, y9, y10, hfz⟩ := HB3.out.cells))
  go_wp2
  exact fin_pl rfl rfl rfl HB3.out (HF.out.trans HF3.out (by simp)) (Nat.le_refl _) HI3.out
set_option maxRecDepth 20000 in
set_option maxHeartbeats 4000000 in
theorem quote_any (a : Int) {rv : Value} {x : Nat} {top : Bool} (hr : Sl w Z rv (ints [x])) : Calls Tryz.prog 42 #[.agg #[num a, rv, .bool top]] w (PlanQ w Z q (.mk (frm 3 a (x : Nat)) [])) := by
  obtain ⟨RA, rc, rfl, _⟩ := hr.form
  obtain ⟨m, hm⟩ : ∃ m, (ints [x]).length = m := ⟨_, rfl⟩
  rw [hm] at hr ⊢
  obtain ⟨W, hW⟩ : ∃ W, ((w.alloc (.cells #[num a, .slice RA m rc, .bool top] 95)).alloc zP) = W := ⟨_, rfl⟩
  obtain ⟨k, hk⟩ : ∃ k, w.heap.size = k := ⟨_, rfl⟩
  have F0 : MM.Far [] w W := by rw [← hW]; exact ((MM.Far.refl [] w).alloc _).alloc _
  have BL : MM.Row W k 95 [num a, .slice RA m rc, .bool top] := by rw [← hW]; exact (row_new 95 [num a, .slice RA m rc, .bool top] hk).alloc _
  have HB : Hid (PlBox W (k + 1)) := Lib.hid (by rw [← hW]; exact PlBox.new (by simp only [sz_alloc, hk]))
  have HZ : Hid (∀ x ∈ (k + 1) :: Z, x < W.heap.size) := Lib.hid (by rw [← hW]; exact z_cons (by simp only [sz_alloc, hk]) (z_alloc hz))
  have HF := Lib.hid F0
  have HK := Lib.hid hk
  have MZ : ∀ x ∈ (k + 1) :: Z, x ∈ Z ∨ w.heap.size ≤ x := fun x hx => (List.mem_cons.1 hx).elim (fun e => .inr (by omega)) .inl
  have b0 := BL.at (i := 0) rfl
  have b1 := BL.at (i := 1) rfl
  have b2 := BL.at (i := 2) rfl
  obtain ⟨g, o, rfl⟩ := sl_some hr (k := 0) rfl
  have hgz := sl_out hr (k := 0) rfl
  have r0 : W.cell? ⟨g, o, none⟩ = some (.int .i64 (x : Nat)) := far_cell F0 (sl_at hr (k := 0) rfl)
  have hne1 : ¬ (k + 1) = g := by have := hgz.2; omega
  have e0 : ¬ (k + 1) = k := by omega
  have hm1 : 0 < m := by rw [← hm]; show 0 < 1; omega
  have hm2 : ¬ m = 0 := by omega
  clear hr hz MZ hm F0 BL hgz
  subst hW; subst hk
  unfold zP num at *
  try unfold ptr at *
  go_enter Tryz.func42, Tryz.ntmps42
  go_wp2
  generalize (w.alloc (.cells #[.int .i64 a, .slice (some ⟨g, o, none⟩) m rc, .bool top] 95)).alloc (.cells #[.bool false, .int .u8 0, .int .i64 0, .int .i64 0, .int .i64 0, .string ⟨#[]⟩, .slice none 0 0, .int .u64 0, .slice none 0 0, .slice none 0 0, .nilFunc] 78) = W at *
  obtain ⟨v0, v1, v2, v3, v4, v5, v6, v7, v8, v9, v10, y0, y1, y2, y3, y4, y5, y6, y7, y8, y9, y10, hfz⟩ := HB.out.cells
  go_region_held3 (fun w' => w'.cell? ⟨w.heap.size, 0, none⟩ = some (.int .i64 a) ∧ w'.cell? ⟨w.heap.size, 1, none⟩ = some (.slice (some ⟨g, o, none⟩) m rc) ∧ w'.cell? ⟨g, o, none⟩ = some (.int .i64 (x : Nat))) (first | (with_reducible assumption) | go_keep) (fail)
  go_wp2
  exact fin_pl_drew rfl rfl rfl HB.out HF.out (by omega) ⟨_, _, _, rfl, Sl.nil _ _, Sl.nil _ _, Iss.nil _ _ _⟩
set_option maxRecDepth 20000 in
set_option maxHeartbeats 4000000 in
theorem begin_any (a : Int) {rv : Value} {r : List Nat} {top : Bool} {bx : Nat} (hr : Sl w Z rv (ints r)) (hx : Bx w Z bx 44 (ptr q))
    (HC0 : ∀ (x : World) (Z2 : List Nat), MM.Far [] w x → (∀ b ∈ Z2, b ∈ Z ∨ w.heap.size ≤ b) → (∀ b ∈ Z2, b < x.heap.size) → Sl x Z2 rv (ints r) → Calls Tryz.prog 48 #[ptr q, num a, rv] x (PartQ x Z2 q (body a r))) :
    Calls Tryz.prog 47 #[.agg #[num a, rv, .bool top], ptr bx] w (PlanQ w Z q (.ins (body a r))) := by
  obtain ⟨RA, rc, rfl, _⟩ := hr.form
  obtain ⟨m, hm⟩ : ∃ m, (ints r).length = m := ⟨_, rfl⟩
  rw [hm] at hr HC0 ⊢
  obtain ⟨W, hW⟩ : ∃ W, ((w.alloc (.cells #[num a, .slice RA m rc, .bool top] 95)).alloc zP) = W := ⟨_, rfl⟩
  obtain ⟨k, hk⟩ : ∃ k, w.heap.size = k := ⟨_, rfl⟩
  have F0 : MM.Far [] w W := by rw [← hW]; exact ((MM.Far.refl [] w).alloc _).alloc _
  have BL : MM.Row W k 95 [num a, .slice RA m rc, .bool top] := by rw [← hW]; exact (row_new 95 [num a, .slice RA m rc, .bool top] hk).alloc _
  have HB : Hid (PlBox W (k + 1)) := Lib.hid (by rw [← hW]; exact PlBox.new (by simp only [sz_alloc, hk]))
  have HZ : Hid (∀ x ∈ (k + 1) :: Z, x < W.heap.size) := Lib.hid (by rw [← hW]; exact z_cons (by simp only [sz_alloc, hk]) (z_alloc hz))
  have HF := Lib.hid F0
  have HK := Lib.hid hk
  have MZ : ∀ x ∈ (k + 1) :: Z, x ∈ Z ∨ w.heap.size ≤ x := fun x hx => (List.mem_cons.1 hx).elim (fun e => .inr (by omega)) .inl
  have b0 := BL.at (i := 0) rfl
  have b1 := BL.at (i := 1) rfl
  have b2 := BL.at (i := 2) rfl
  have g1 := (hx.far F0 (by simp)).at
  have HC := Lib.hid (HC0 W ((k + 1) :: Z) F0 MZ HZ.out ((hr.more MZ).far F0 (by simp)))
  clear hr hz MZ hm F0 BL HC0 hx
  subst hW; subst hk
  unfold zP num at *
  try unfold ptr at *
  go_enter Tryz.func47, Tryz.ntmps47
  go_wp2_with (go_at_call 48; refine HC.out.mono ?_; rintro e w1 ⟨v1, rfl, hI1, hF1⟩; obtain ⟨f1, l1, rfl⟩ := hI1.func; have HB1 := Lib.hid (HB.out.far hF1 (by simp)); have HF1 := Lib.hid (HF.out.trans hF1 (by simp)); have HI1 := Lib.hid hI1; clear hF1 hI1; obtain ⟨v0, v1, v2, v3, v4, v5, v6, v7, v8, v9, v10, y0, y1, y2, y3, y4, y5, y6, y7, y8, y9, y10, hfz⟩ := HB1.out.cells)
  exact fin_pl rfl rfl rfl HB1.out HF1.out (by omega) ⟨_, rfl, HI1.out⟩
set_option maxRecDepth 20000 in
set_option maxHeartbeats 4000000 in
theorem condS_any (a : Int) {rv : Value} {r : List Nat} {top : Bool} {bx : Nat} (hr : Sl w Z rv (ints r)) (hx : Bx w Z bx 44 (ptr q))
    (HC0 : ∀ (x : World) (Z2 : List Nat), MM.Far [] w x → (∀ b ∈ Z2, b ∈ Z ∨ w.heap.size ≤ b) → (∀ b ∈ Z2, b < x.heap.size) → Sl x Z2 rv (ints r) → Calls Tryz.prog 53 #[ptr q, num a, rv] x (PlanQ x Z2 q (condP ns a r))) :
    Calls Tryz.prog 52 #[.agg #[num a, rv, .bool top], ptr bx] w (PlanQ w Z q (condP ns a r)) := by
  obtain ⟨RA, rc, rfl, _⟩ := hr.form
  obtain ⟨m, hm⟩ : ∃ m, (ints r).length = m := ⟨_, rfl⟩
  rw [hm] at hr HC0 ⊢
  obtain ⟨W, hW⟩ : ∃ W, ((w.alloc (.cells #[num a, .slice RA m rc, .bool top] 95)).alloc zP) = W := ⟨_, rfl⟩
  obtain ⟨k, hk⟩ : ∃ k, w.heap.size = k := ⟨_, rfl⟩
  have F0 : MM.Far [] w W := by rw [← hW]; exact ((MM.Far.refl [] w).alloc _).alloc _
  have BL : MM.Row W k 95 [num a, .slice RA m rc, .bool top] := by rw [← hW]; exact (row_new 95 [num a, .slice RA m rc, .bool top] hk).alloc _
  have HB : Hid (PlBox W (k + 1)) := Lib.hid (by rw [← hW]; exact PlBox.new (by simp only [sz_alloc, hk]))
  have HZ : Hid (∀ x ∈ (k + 1) :: Z, x < W.heap.size) := Lib.hid (by rw [← hW]; exact z_cons (by simp only [sz_alloc, hk]) (z_alloc hz))
  have HF := Lib.hid F0
  have HK := Lib.hid hk
  have MZ : ∀ x ∈ (k + 1) :: Z, x ∈ Z ∨ w.heap.size ≤ x := fun x hx => (List.mem_cons.1 hx).elim (fun e => .inr (by omega)) .inl
  have b0 := BL.at (i := 0) rfl
  have b1 := BL.at (i := 1) rfl
  have b2 := BL.at (i := 2) rfl
  have g1 := (hx.far F0 (by simp)).at
  have HC := Lib.hid (HC0 W ((k + 1) :: Z) F0 MZ HZ.out ((hr.more MZ).far F0 (by simp)))
  clear hr hz MZ hm F0 BL HC0 hx
  subst hW; subst hk
  unfold zP num at *
  try unfold ptr at *
  go_enter Tryz.func52, Tryz.ntmps52
  go_wp2_with (go_at_call 53; refine HC.out.mono ?_; rintro e wp ⟨v, rfl, hI, hFp⟩; obtain ⟨bad, kind, at_, nn, s, A, m, c, A2, m2, c2, ins, rfl, hins⟩ := hI.form; have HFp := Lib.hid (MM.Far.trans (MM.Far.refl [] _) hFp (by simp)); have HBp := Lib.hid (HB.out.far HFp.out (by simp)); have HFq := Lib.hid (HF.out.trans HFp.out (by simp)); have HI := Lib.hid hI; clear hI; obtain ⟨v0, v1, v2, v3, v4, v5, v6, v7, v8, v9, v10, y0, y1, y2, y3, y4, y5, y6, y7, y8, y9, y10, hfz⟩ := HBp.out.cells)
  exact fin_pl rfl rfl rfl HBp.out HFq.out (by omega) HI.out
set_option maxRecDepth 20000 in
set_option maxHeartbeats 4000000 in
theorem andS_any (a : Int) {rv : Value} {r : List Nat} {top : Bool} {bx : Nat} (hr : Sl w Z rv (ints r)) (hx : Bx w Z bx 44 (ptr q))
    (HC0 : ∀ (x : World) (Z2 : List Nat), MM.Far [] w x → (∀ b ∈ Z2, b ∈ Z ∨ w.heap.size ≤ b) → (∀ b ∈ Z2, b < x.heap.size) → Sl x Z2 rv (ints r) → Calls Tryz.prog 57 #[ptr q, num a, rv] x (PlanQ x Z2 q (andP a r))) :
    Calls Tryz.prog 56 #[.agg #[num a, rv, .bool top], ptr bx] w (PlanQ w Z q (andP a r)) := by
  obtain ⟨RA, rc, rfl, _⟩ := hr.form
  obtain ⟨m, hm⟩ : ∃ m, (ints r).length = m := ⟨_, rfl⟩
  rw [hm] at hr HC0 ⊢
  obtain ⟨W, hW⟩ : ∃ W, ((w.alloc (.cells #[num a, .slice RA m rc, .bool top] 95)).alloc zP) = W := ⟨_, rfl⟩
  obtain ⟨k, hk⟩ : ∃ k, w.heap.size = k := ⟨_, rfl⟩
  have F0 : MM.Far [] w W := by rw [← hW]; exact ((MM.Far.refl [] w).alloc _).alloc _
  have BL : MM.Row W k 95 [num a, .slice RA m rc, .bool top] := by rw [← hW]; exact (row_new 95 [num a, .slice RA m rc, .bool top] hk).alloc _
  have HB : Hid (PlBox W (k + 1)) := Lib.hid (by rw [← hW]; exact PlBox.new (by simp only [sz_alloc, hk]))
  have HZ : Hid (∀ x ∈ (k + 1) :: Z, x < W.heap.size) := Lib.hid (by rw [← hW]; exact z_cons (by simp only [sz_alloc, hk]) (z_alloc hz))
  have HF := Lib.hid F0
  have HK := Lib.hid hk
  have MZ : ∀ x ∈ (k + 1) :: Z, x ∈ Z ∨ w.heap.size ≤ x := fun x hx => (List.mem_cons.1 hx).elim (fun e => .inr (by omega)) .inl
  have b0 := BL.at (i := 0) rfl
  have b1 := BL.at (i := 1) rfl
  have b2 := BL.at (i := 2) rfl
  have g1 := (hx.far F0 (by simp)).at
  have HC := Lib.hid (HC0 W ((k + 1) :: Z) F0 MZ HZ.out ((hr.more MZ).far F0 (by simp)))
  clear hr hz MZ hm F0 BL HC0 hx
  subst hW; subst hk
  unfold zP num at *
  try unfold ptr at *
  go_enter Tryz.func56, Tryz.ntmps56
  go_wp2_with (go_at_call 57; refine HC.out.mono ?_; rintro e wp ⟨v, rfl, hI, hFp⟩; obtain ⟨bad, kind, at_, nn, s, A, m, c, A2, m2, c2, ins, rfl, hins⟩ := hI.form; have HFp := Lib.hid (MM.Far.trans (MM.Far.refl [] _) hFp (by simp)); have HBp := Lib.hid (HB.out.far HFp.out (by simp)); have HFq := Lib.hid (HF.out.trans HFp.out (by simp)); have HI := Lib.hid hI; clear hI; obtain ⟨v0, v1, v2, v3, v4, v5, v6, v7, v8, v9, v10, y0, y1, y2, y3, y4, y5, y6, y7, y8, y9, y10, hfz⟩ := HBp.out.cells)
  exact fin_pl rfl rfl rfl HBp.out HFq.out (by omega) HI.out
set_option maxRecDepth 20000 in
set_option maxHeartbeats 4000000 in
theorem orS_any (a : Int) {rv : Value} {r : List Nat} {top : Bool} {bx : Nat} (hr : Sl w Z rv (ints r)) (hx : Bx w Z bx 44 (ptr q))
    (HC0 : ∀ (x : World) (Z2 : List Nat), MM.Far [] w x → (∀ b ∈ Z2, b ∈ Z ∨ w.heap.size ≤ b) → (∀ b ∈ Z2, b < x.heap.size) → Sl x Z2 rv (ints r) → Calls Tryz.prog 59 #[ptr q, num a, rv] x (PlanQ x Z2 q (orP a r))) :
    Calls Tryz.prog 58 #[.agg #[num a, rv, .bool top], ptr bx] w (PlanQ w Z q (orP a r)) := by
  obtain ⟨RA, rc, rfl, _⟩ := hr.form
  obtain ⟨m, hm⟩ : ∃ m, (ints r).length = m := ⟨_, rfl⟩
  rw [hm] at hr HC0 ⊢
  obtain ⟨W, hW⟩ : ∃ W, ((w.alloc (.cells #[num a, .slice RA m rc, .bool top] 95)).alloc zP) = W := ⟨_, rfl⟩
  obtain ⟨k, hk⟩ : ∃ k, w.heap.size = k := ⟨_, rfl⟩
  have F0 : MM.Far [] w W := by rw [← hW]; exact ((MM.Far.refl [] w).alloc _).alloc _
  have BL : MM.Row W k 95 [num a, .slice RA m rc, .bool top] := by rw [← hW]; exact (row_new 95 [num a, .slice RA m rc, .bool top] hk).alloc _
  have HB : Hid (PlBox W (k + 1)) := Lib.hid (by rw [← hW]; exact PlBox.new (by simp only [sz_alloc, hk]))
  have HZ : Hid (∀ x ∈ (k + 1) :: Z, x < W.heap.size) := Lib.hid (by rw [← hW]; exact z_cons (by simp only [sz_alloc, hk]) (z_alloc hz))
  have HF := Lib.hid F0
  have HK := Lib.hid hk
  have MZ : ∀ x ∈ (k + 1) :: Z, x ∈ Z ∨ w.heap.size ≤ x := fun x hx => (List.mem_cons.1 hx).elim (fun e => .inr (by omega)) .inl
  have b0 := BL.at (i := 0) rfl
  have b1 := BL.at (i := 1) rfl
  have b2 := BL.at (i := 2) rfl
  have g1 := (hx.far F0 (by simp)).at
  have HC := Lib.hid (HC0 W ((k + 1) :: Z) F0 MZ HZ.out ((hr.more MZ).far F0 (by simp)))
  clear hr hz MZ hm F0 BL HC0 hx
  subst hW; subst hk
  unfold zP num at *
  try unfold ptr at *
  go_enter Tryz.func58, Tryz.ntmps58
  go_wp2_with (go_at_call 59; refine HC.out.mono ?_; rintro e wp ⟨v, rfl, hI, hFp⟩; obtain ⟨bad, kind, at_, nn, s, A, m, c, A2, m2, c2, ins, rfl, hins⟩ := hI.form; have HFp := Lib.hid (MM.Far.trans (MM.Far.refl [] _) hFp (by simp)); have HBp := Lib.hid (HB.out.far HFp.out (by simp)); have HFq := Lib.hid (HF.out.trans HFp.out (by simp)); have HI := Lib.hid hI; clear hI; obtain ⟨v0, v1, v2, v3, v4, v5, v6, v7, v8, v9, v10, y0, y1, y2, y3, y4, y5, y6, y7, y8, y9, y10, hfz⟩ := HBp.out.cells)
  exact fin_pl rfl rfl rfl HBp.out HFq.out (by omega) HI.out
set_option maxRecDepth 20000 in
set_option maxHeartbeats 4000000 in
theorem elseS_any (a : Int) {rv : Value} {r : List Nat} {top : Bool} (hr : Sl w Z rv (ints r)) :
    Calls Tryz.prog 54 #[.agg #[num a, rv, .bool top]] w (PlanQ w Z q (.bad a)) := by
  obtain ⟨RA, rc, rfl, _⟩ := hr.form
  obtain ⟨m, hm⟩ : ∃ m, (ints r).length = m := ⟨_, rfl⟩
  rw [hm] at hr ⊢
  obtain ⟨W, hW⟩ : ∃ W, ((w.alloc (.cells #[num a, .slice RA m rc, .bool top] 95)).alloc zP) = W := ⟨_, rfl⟩
  obtain ⟨k, hk⟩ : ∃ k, w.heap.size = k := ⟨_, rfl⟩
  have F0 : MM.Far [] w W := by rw [← hW]; exact ((MM.Far.refl [] w).alloc _).alloc _
  have BL : MM.Row W k 95 [num a, .slice RA m rc, .bool top] := by rw [← hW]; exact (row_new 95 [num a, .slice RA m rc, .bool top] hk).alloc _
  have HB : Hid (PlBox W (k + 1)) := Lib.hid (by rw [← hW]; exact PlBox.new (by simp only [sz_alloc, hk]))
  have HZ : Hid (∀ x ∈ (k + 1) :: Z, x < W.heap.size) := Lib.hid (by rw [← hW]; exact z_cons (by simp only [sz_alloc, hk]) (z_alloc hz))
  have HF := Lib.hid F0
  have HK := Lib.hid hk
  have MZ : ∀ x ∈ (k + 1) :: Z, x ∈ Z ∨ w.heap.size ≤ x := fun x hx => (List.mem_cons.1 hx).elim (fun e => .inr (by omega)) .inl
  have b0 := BL.at (i := 0) rfl
  have b1 := BL.at (i := 1) rfl
  have b2 := BL.at (i := 2) rfl
  clear hr hz MZ hm F0 BL
  subst hW; subst hk
  unfold zP num at *
  try unfold ptr at *
  go_enter Tryz.func54, Tryz.ntmps54
  go_wp2_with (go_at_call 55; refine (wrong_any (Z := (w.heap.size + 1) :: Z) _ q a).mono ?_; rintro e wp ⟨v, rfl, hI, hFp⟩; obtain ⟨bad, kind, at_, nn, s, A, m, c, A2, m2, c2, ins, rfl, hins⟩ := hI.form; have HFp := Lib.hid (MM.Far.trans (MM.Far.refl [] _) hFp (by simp)); have HBp := Lib.hid (HB.out.far HFp.out (by simp)); have HFq := Lib.hid (HF.out.trans HFp.out (by simp)); have HI := Lib.hid hI; clear hI; obtain ⟨v0, v1, v2, v3, v4, v5, v6, v7, v8, v9, v10, y0, y1, y2, y3, y4, y5, y6, y7, y8, y9, y10, hfz⟩ := HBp.out.cells)
  exact fin_pl rfl rfl rfl HBp.out HFq.out (by omega) HI.out
set_option maxRecDepth 20000 in
set_option maxHeartbeats 4000000 in
theorem when_any (a : Int) {rv : Value} {x : Nat} {r : List Nat} {top : Bool} {bx : Nat} (hr : Sl w Z rv (ints (x :: r))) (hx : Bx w Z bx 44 (ptr q)) :
    Calls Tryz.prog 60 #[.agg #[num a, rv, .bool top], ptr bx] w (PlanQ w Z q (whenP a (x :: r))) := by
  have hr2 := hr
  rw [int_head] at hr2
  obtain ⟨g, o, rc, rfl, hc, _, _, hg, hgz, hS0⟩ := hr2.cons
  obtain ⟨m', hm'⟩ : ∃ m', (ints r).length = m' := ⟨_, rfl⟩
  rw [hm'] at hr hS0 ⊢
  obtain ⟨A', hA'⟩ : ∃ A', (if rc = 1 then some (⟨g, o, none⟩ : Addr) else some ⟨g, o + 1, none⟩) = A' := ⟨_, rfl⟩
  have hsl := fun X => slice_ints g o m' rc X
  rw [hA'] at hS0 hsl
  obtain ⟨W, hW⟩ : ∃ W, ((w.alloc (.cells #[num a, .slice (some ⟨g, o, none⟩) (m' + 1) rc, .bool top] 95)).alloc zP) = W := ⟨_, rfl⟩
  obtain ⟨k, hk⟩ : ∃ k, w.heap.size = k := ⟨_, rfl⟩
  have F0 : MM.Far [] w W := by rw [← hW]; exact ((MM.Far.refl [] w).alloc _).alloc _
  have BL : MM.Row W k 95 [num a, .slice (some ⟨g, o, none⟩) (m' + 1) rc, .bool top] := by rw [← hW]; exact (row_new 95 [num a, .slice (some ⟨g, o, none⟩) (m' + 1) rc, .bool top] hk).alloc _
  have HB : Hid (PlBox W (k + 1)) := Lib.hid (by rw [← hW]; exact PlBox.new (by simp only [sz_alloc, hk]))
  have HZ : Hid (∀ x ∈ (k + 1) :: Z, x < W.heap.size) := Lib.hid (by rw [← hW]; exact z_cons (by simp only [sz_alloc, hk]) (z_alloc hz))
  have HF := Lib.hid F0
  have HK := Lib.hid hk
  have MZ : ∀ x ∈ (k + 1) :: Z, x ∈ Z ∨ w.heap.size ≤ x := fun x hx => (List.mem_cons.1 hx).elim (fun e => .inr (by omega)) .inl
  have b0 := BL.at (i := 0) rfl
  have b1 := BL.at (i := 1) rfl
  have b2 := BL.at (i := 2) rfl
  have r0 := far_cell F0 hc
  have g1 := (hx.far F0 (by simp)).at
  have hne2 : ¬ (k + 1) = bx := by have := hx.lt; omega
  have hne1 : ¬ (k + 1) = g := by omega
  have e0 : ¬ (k + 1) = k := by omega
  have HS := Lib.hid ((hS0.more MZ).far F0 (by simp))
  show Calls _ _ _ _ (PlanQ w Z q (choosePl a (.dat x) (body a r) (.tr a 0)))
  clear hr hr2 hz MZ F0 BL hx hc hg hgz hS0 hA' hm'
  subst hW; subst hk
  unfold zP num at *
  try unfold ptr at *
  go_enter Tryz.func60, Tryz.ntmps60
  go_wp2
  generalize (w.alloc (.cells #[.int .i64 a, .slice (some ⟨g, o, none⟩) (m' + 1) rc, .bool top] 95)).alloc (.cells #[.bool false, .int .u8 0, .int .i64 0, .int .i64 0, .int .i64 0, .string ⟨#[]⟩, .slice none 0 0, .int .u64 0, .slice none 0 0, .slice none 0 0, .nilFunc] 78) = W at *
  go_region_held3 (fun w' => w'.cell? ⟨w.heap.size, 0, none⟩ = some (.int .i64 a) ∧ w'.cell? ⟨w.heap.size, 1, none⟩ = some (.slice (some ⟨g, o, none⟩) (m' + 1) rc) ∧ w'.cell? ⟨bx, 0, none⟩ = some (.pointer (some ⟨q, 0, none⟩)) ∧ w'.cell? ⟨g, o, none⟩ = some (.int .i64 (x : Nat))) (first | (with_reducible assumption) | go_keep) (first
    | (go_at_call 61; (with_reducible refine (choose_any _ q (z_far HZ.out HF7.out) a HI5.out HI6.out HI7.out).mono ?_); rintro e w3 ⟨v3, rfl, hI3, hF3⟩; obtain ⟨bad, kind, at_, nn, s, A, m2, c, A2, m3, c2, ins, rfl, hins⟩ := hI3.form; have hk3 := keep4 hF3 (by assumption); have HF3 := Lib.hid (MM.Far.trans HF7.out hF3 (by simp)); have HI3 := Lib.hid hI3; have HB3 := Lib.hid (HB.out.far HF3.out (by simp)); clear hF3 hI3; obtain ⟨v0, v1, v2, v3, v4, v5, v6, v7, v8, v9, v10, y0, y1, y2, y3, y4, y5, y6, y7, y8, y9, y10, hfz⟩ := HB3.out.cells)
    | (go_at_call 63; (with_reducible refine (truth_any _ q (z_far HZ.out HF6.out) a 0).mono ?_); rintro e w7 ⟨v7, rfl, hI7, hF7⟩; obtain ⟨f7, l7, rfl⟩ := hI7.func; have hk7 := keep4 hF7 (by assumption); have HI5 := Lib.hid (HI5.out.far hF7 (by simp)); have HI6 := Lib.hid (HI6.out.far hF7 (by simp)); have HF7 := Lib.hid (MM.Far.trans (HF6.out) hF7 (by simp)); have HI7 := Lib.hid hI7; clear hF7 hI7)
    | (go_at_call 48; (with_reducible refine (body_any _ q (z_far HZ.out HF5.out) a (HS.out.far HF5.out (by simp))).mono ?_); rintro e w6 ⟨v6, rfl, hI6, hF6⟩; obtain ⟨f6, l6, rfl⟩ := hI6.func; have hk6 := keep4 hF6 (by assumption); have HI5 := Lib.hid (HI5.out.far hF6 (by simp)); have HF6 := Lib.hid (MM.Far.trans (HF5.out) hF6 (by simp)); have HI6 := Lib.hid hI6; clear hF6 hI6)
    | (go_at_call 62; (with_reducible refine (datum_any _ q (z_drew HZ.out) x).mono ?_); rintro e w5 ⟨v5, rfl, hI5, hF5⟩; obtain ⟨f5, l5, rfl⟩ := hI5.func; have hk5 := keep4 hF5 (by assumption); have HF5 := Lib.hid (MM.Far.trans ((MM.Far.refl [] W).drew) hF5 (by simp)); have HI5 := Lib.hid hI5; clear hF5 hI5))
  go_wp2
  exact fin_pl rfl rfl rfl HB3.out (HF.out.trans HF3.out (by simp)) (by omega) HI3.out
set_option maxRecDepth 20000 in
set_option maxHeartbeats 4000000 in
theorem unless_any (a : Int) {rv : Value} {x : Nat} {r : List Nat} {top : Bool} {bx : Nat} (hr : Sl w Z rv (ints (x :: r))) (hx : Bx w Z bx 44 (ptr q)) :
    Calls Tryz.prog 64 #[.agg #[num a, rv, .bool top], ptr bx] w (PlanQ w Z q (unlessP a (x :: r))) := by
  have hr2 := hr
  rw [int_head] at hr2
  obtain ⟨g, o, rc, rfl, hc, _, _, hg, hgz, hS0⟩ := hr2.cons
  obtain ⟨m', hm'⟩ : ∃ m', (ints r).length = m' := ⟨_, rfl⟩
  rw [hm'] at hr hS0 ⊢
  obtain ⟨A', hA'⟩ : ∃ A', (if rc = 1 then some (⟨g, o, none⟩ : Addr) else some ⟨g, o + 1, none⟩) = A' := ⟨_, rfl⟩
  have hsl := fun X => slice_ints g o m' rc X
  rw [hA'] at hS0 hsl
  obtain ⟨W, hW⟩ : ∃ W, ((w.alloc (.cells #[num a, .slice (some ⟨g, o, none⟩) (m' + 1) rc, .bool top] 95)).alloc zP) = W := ⟨_, rfl⟩
  obtain ⟨k, hk⟩ : ∃ k, w.heap.size = k := ⟨_, rfl⟩
  have F0 : MM.Far [] w W := by rw [← hW]; exact ((MM.Far.refl [] w).alloc _).alloc _
  have BL : MM.Row W k 95 [num a, .slice (some ⟨g, o, none⟩) (m' + 1) rc, .bool top] := by rw [← hW]; exact (row_new 95 [num a, .slice (some ⟨g, o, none⟩) (m' + 1) rc, .bool top] hk).alloc _
  have HB : Hid (PlBox W (k + 1)) := Lib.hid (by rw [← hW]; exact PlBox.new (by simp only [sz_alloc, hk]))
  have HZ : Hid (∀ x ∈ (k + 1) :: Z, x < W.heap.size) := Lib.hid (by rw [← hW]; exact z_cons (by simp only [sz_alloc, hk]) (z_alloc hz))
  have HF := Lib.hid F0
  have HK := Lib.hid hk
  have MZ : ∀ x ∈ (k + 1) :: Z, x ∈ Z ∨ w.heap.size ≤ x := fun x hx => (List.mem_cons.1 hx).elim (fun e => .inr (by omega)) .inl
  have b0 := BL.at (i := 0) rfl
  have b1 := BL.at (i := 1) rfl
  have b2 := BL.at (i := 2) rfl
  have r0 := far_cell F0 hc
  have g1 := (hx.far F0 (by simp)).at
  have hne2 : ¬ (k + 1) = bx := by have := hx.lt; omega
  have hne1 : ¬ (k + 1) = g := by omega
  have e0 : ¬ (k + 1) = k := by omega
  have HS := Lib.hid ((hS0.more MZ).far F0 (by simp))
  show Calls _ _ _ _ (PlanQ w Z q (choosePl a (.dat x) (.tr a 0) (body a r)))
  clear hr hr2 hz MZ F0 BL hx hc hg hgz hS0 hA' hm'
  subst hW; subst hk
  unfold zP num at *
  try unfold ptr at *
  go_enter Tryz.func64, Tryz.ntmps64
  go_wp2
  generalize (w.alloc (.cells #[.int .i64 a, .slice (some ⟨g, o, none⟩) (m' + 1) rc, .bool top] 95)).alloc (.cells #[.bool false, .int .u8 0, .int .i64 0, .int .i64 0, .int .i64 0, .string ⟨#[]⟩, .slice none 0 0, .int .u64 0, .slice none 0 0, .slice none 0 0, .nilFunc] 78) = W at *
  go_region_held3 (fun w' => w'.cell? ⟨w.heap.size, 0, none⟩ = some (.int .i64 a) ∧ w'.cell? ⟨w.heap.size, 1, none⟩ = some (.slice (some ⟨g, o, none⟩) (m' + 1) rc) ∧ w'.cell? ⟨bx, 0, none⟩ = some (.pointer (some ⟨q, 0, none⟩)) ∧ w'.cell? ⟨g, o, none⟩ = some (.int .i64 (x : Nat))) (first | (with_reducible assumption) | go_keep) (first
    | (go_at_call 61; (with_reducible refine (choose_any _ q (z_far HZ.out HF7.out) a HI5.out HI6.out HI7.out).mono ?_); rintro e w3 ⟨v3, rfl, hI3, hF3⟩; obtain ⟨bad, kind, at_, nn, s, A, m2, c, A2, m3, c2, ins, rfl, hins⟩ := hI3.form; have hk3 := keep4 hF3 (by assumption); have HF3 := Lib.hid (MM.Far.trans HF7.out hF3 (by simp)); have HI3 := Lib.hid hI3; have HB3 := Lib.hid (HB.out.far HF3.out (by simp)); clear hF3 hI3; obtain ⟨v0, v1, v2, v3, v4, v5, v6, v7, v8, v9, v10, y0, y1, y2, y3, y4, y5, y6, y7, y8, y9, y10, hfz⟩ := HB3.out.cells)
    | (go_at_call 48; (with_reducible refine (body_any _ q (z_far HZ.out HF6.out) a (HS.out.far HF6.out (by simp))).mono ?_); rintro e w7 ⟨v7, rfl, hI7, hF7⟩; obtain ⟨f7, l7, rfl⟩ := hI7.func; have hk7 := keep4 hF7 (by assumption); have HI5 := Lib.hid (HI5.out.far hF7 (by simp)); have HI6 := Lib.hid (HI6.out.far hF7 (by simp)); have HF7 := Lib.hid (MM.Far.trans (HF6.out) hF7 (by simp)); have HI7 := Lib.hid hI7; clear hF7 hI7)
    | (go_at_call 63; (with_reducible refine (truth_any _ q (z_far HZ.out HF5.out) a 0).mono ?_); rintro e w6 ⟨v6, rfl, hI6, hF6⟩; obtain ⟨f6, l6, rfl⟩ := hI6.func; have hk6 := keep4 hF6 (by assumption); have HI5 := Lib.hid (HI5.out.far hF6 (by simp)); have HF6 := Lib.hid (MM.Far.trans (HF5.out) hF6 (by simp)); have HI6 := Lib.hid hI6; clear hF6 hI6)
    | (go_at_call 62; (with_reducible refine (datum_any _ q (z_drew HZ.out) x).mono ?_); rintro e w5 ⟨v5, rfl, hI5, hF5⟩; obtain ⟨f5, l5, rfl⟩ := hI5.func; have hk5 := keep4 hF5 (by assumption); have HF5 := Lib.hid (MM.Far.trans ((MM.Far.refl [] W).drew) hF5 (by simp)); have HI5 := Lib.hid hI5; clear hF5 hI5))
  go_wp2
  exact fin_pl rfl rfl rfl HB3.out (HF.out.trans HF3.out (by simp)) (by omega) HI3.out
end
end EW
end Go.Proofs.YtaghlpolljaedaaGreat
/-
  Contracts of the code's shapes if and set!. Conditions: sizes; the row of data may be.
-/
namespace Go.Proofs.YtaghlpolljaedaaGreat
open Go.RowKit
namespace EW
open LX SX RW6 EX
open RX (Nd)
section
variable (w : World) {Z : List Nat} (q : Nat) (hz : ∀ b ∈ Z, b < w.heap.size)
include hz
set_option maxRecDepth 20000 in
set_option maxHeartbeats 4000000 in
theorem choice2 (a : Int) {rv : Value} {x y : Nat} {top : Bool} (hr : Sl w Z rv (ints [x, y])) :
    Calls Tryz.prog 43 #[ptr q, .agg #[num a, rv, .bool top]] w (PlanQ w Z q (choosePl a (.dat x) (.dat y) (.tr a 0))) := by
  obtain ⟨RA, rc, rfl, _⟩ := hr.form
  have hlen : (ints [x, y]).length = 2 := rfl
  rw [hlen] at hr ⊢
  obtain ⟨g, o, rfl⟩ := sl_some hr (k := 0) rfl
  have hgz := sl_out hr (k := 0) rfl
  obtain ⟨W, hW⟩ : ∃ W, ((w.alloc (.cells #[num a, .slice (some ⟨g, o, none⟩) 2 rc, .bool top] 95)).alloc zP) = W := ⟨_, rfl⟩
  obtain ⟨k, hk⟩ : ∃ k, w.heap.size = k := ⟨_, rfl⟩
  have F0 : MM.Far [] w W := by rw [← hW]; exact ((MM.Far.refl [] w).alloc _).alloc _
  have BL : MM.Row W k 95 [num a, .slice (some ⟨g, o, none⟩) 2 rc, .bool top] := by rw [← hW]; exact (row_new 95 [num a, .slice (some ⟨g, o, none⟩) 2 rc, .bool top] hk).alloc _
  have HB : Hid (PlBox W (k + 1)) := Lib.hid (by rw [← hW]; exact PlBox.new (by simp only [sz_alloc, hk]))
  have HZ : Hid (∀ x ∈ (k + 1) :: Z, x < W.heap.size) := Lib.hid (by rw [← hW]; exact z_cons (by simp only [sz_alloc, hk]) (z_alloc hz))
  have HF := Lib.hid F0
  have HK := Lib.hid hk
  have MZ : ∀ x ∈ (k + 1) :: Z, x ∈ Z ∨ w.heap.size ≤ x := fun x hx => (List.mem_cons.1 hx).elim (fun e => .inr (by omega)) .inl
  have b0 := BL.at (i := 0) rfl
  have b1 := BL.at (i := 1) rfl
  have b2 := BL.at (i := 2) rfl
  have r0 : W.cell? ⟨g, o, none⟩ = some (.int .i64 ((x : Nat) : Int)) := far_cell F0 (sl_at hr (k := 0) rfl)
  have r1 : W.cell? ⟨g, o + 1, none⟩ = some (.int .i64 ((y : Nat) : Int)) := far_cell F0 (sl_at hr (k := 1) rfl)
  have hne1 : ¬ (k + 1) = g := by have := hgz.2; omega
  have e0 : ¬ (k + 1) = k := by omega
  have HC1 := Lib.hid (truth_any W q HZ.out a 0)
  clear hr hz MZ F0 BL hgz hlen
  subst hW; subst hk
  unfold zP num at *
  unfold ptr at *
  go_enter Tryz.func43, Tryz.ntmps43
  go_wp2_with (first
    | (go_at_call 63; refine HC1.out.mono ?_; rintro e w1 ⟨v1, rfl, hI1, hF1⟩; obtain ⟨f1, l1, rfl⟩ := hI1.func; have HF1 := Lib.hid hF1; have HI1 := Lib.hid hI1; clear hF1 hI1; have q0 := far_cell HF1.out b0; have q1 := far_cell HF1.out b1; have p0 := far_cell HF1.out r0; have p1 := far_cell HF1.out r1;  have HC2 := Lib.hid (datum_any w1 q (z_far HZ.out HF1.out) x)))
  go_region_held3 (fun w' => w'.cell? ⟨w.heap.size, 0, none⟩ = some (.int .i64 a) ∧ w'.cell? ⟨w.heap.size, 1, none⟩ = some (.slice (some ⟨g, o, none⟩) 2 rc) ∧ w'.cell? ⟨g, o, none⟩ = some (.int .i64 (x : Nat)) ∧ w'.cell? ⟨g, o + 1, none⟩ = some (.int .i64 (y : Nat))) (first | (with_reducible assumption) | go_keep) (first
    | (go_at_call 61; (with_reducible refine (choose_any _ q (z_far HZ.out HF6.out) a HI5.out HI6.out HI1.out).mono ?_); rintro e w3 ⟨v3, rfl, hI3, hF3⟩; obtain ⟨bad, kind, at_, nn, s, A, m2, c, A2, m3, c2, ins, rfl, hins⟩ := hI3.form; have hk3 := keep4 hF3 (by assumption); have HF3 := Lib.hid (MM.Far.trans HF6.out hF3 (by simp)); have HI3 := Lib.hid hI3; have HB3 := Lib.hid (HB.out.far HF3.out (by simp)); clear hF3 hI3; obtain ⟨v0, v1, v2, v3, v4, v5, v6, v7, v8, v9, v10, y0, y1, y2, y3, y4, y5, y6, y7, y8, y9, y10, hfz⟩ := HB3.out.cells)
    | (go_at_call 62; (with_reducible refine (datum_any _ q (z_far HZ.out HF5.out) y).mono ?_); rintro e w6 ⟨v6, rfl, hI6, hF6⟩; obtain ⟨f6, l6, rfl⟩ := hI6.func; have hk6 := keep4 hF6 (by assumption); have HI5 := Lib.hid (HI5.out.far hF6 (by simp)); have HI1 := Lib.hid (HI1.out.far hF6 (by simp)); have HF6 := Lib.hid (MM.Far.trans (HF5.out) hF6 (by simp)); have HI6 := Lib.hid hI6; clear hF6 hI6)
    | (go_at_call 62; (with_reducible refine (datum_any _ q (z_drew (z_far HZ.out HF1.out)) x).mono ?_); rintro e w5 ⟨v5, rfl, hI5, hF5⟩; obtain ⟨f5, l5, rfl⟩ := hI5.func; have hk5 := keep4 hF5 (by assumption); have HI1 := Lib.hid (HI1.out.far (MM.Far.trans ((MM.Far.refl [] _).drew) hF5 (by simp)) (by simp)); have HF5 := Lib.hid (MM.Far.trans (MM.Far.drew HF1.out) hF5 (by simp)); have HI5 := Lib.hid hI5; clear hF5 hI5))
  go_wp2
  exact fin_pl rfl rfl rfl HB3.out (HF.out.trans HF3.out (by simp)) (by omega) HI3.out
set_option maxRecDepth 20000 in
set_option maxHeartbeats 4000000 in
theorem choice3 (a : Int) {rv : Value} {x y z : Nat} {top : Bool} (hr : Sl w Z rv (ints [x, y, z])) :
    Calls Tryz.prog 43 #[ptr q, .agg #[num a, rv, .bool top]] w (PlanQ w Z q (choosePl a (.dat x) (.dat y) (.dat z))) := by
  obtain ⟨RA, rc, rfl, _⟩ := hr.form
  have hlen : (ints [x, y, z]).length = 3 := rfl
  rw [hlen] at hr ⊢
  obtain ⟨g, o, rfl⟩ := sl_some hr (k := 0) rfl
  have hgz := sl_out hr (k := 0) rfl
  obtain ⟨W, hW⟩ : ∃ W, ((w.alloc (.cells #[num a, .slice (some ⟨g, o, none⟩) 3 rc, .bool top] 95)).alloc zP) = W := ⟨_, rfl⟩
  obtain ⟨k, hk⟩ : ∃ k, w.heap.size = k := ⟨_, rfl⟩
  have F0 : MM.Far [] w W := by rw [← hW]; exact ((MM.Far.refl [] w).alloc _).alloc _
  have BL : MM.Row W k 95 [num a, .slice (some ⟨g, o, none⟩) 3 rc, .bool top] := by rw [← hW]; exact (row_new 95 [num a, .slice (some ⟨g, o, none⟩) 3 rc, .bool top] hk).alloc _
  have HB : Hid (PlBox W (k + 1)) := Lib.hid (by rw [← hW]; exact PlBox.new (by simp only [sz_alloc, hk]))
  have HZ : Hid (∀ x ∈ (k + 1) :: Z, x < W.heap.size) := Lib.hid (by rw [← hW]; exact z_cons (by simp only [sz_alloc, hk]) (z_alloc hz))
  have HF := Lib.hid F0
  have HK := Lib.hid hk
  have MZ : ∀ x ∈ (k + 1) :: Z, x ∈ Z ∨ w.heap.size ≤ x := fun x hx => (List.mem_cons.1 hx).elim (fun e => .inr (by omega)) .inl
  have b0 := BL.at (i := 0) rfl
  have b1 := BL.at (i := 1) rfl
  have b2 := BL.at (i := 2) rfl
  have r0 : W.cell? ⟨g, o, none⟩ = some (.int .i64 ((x : Nat) : Int)) := far_cell F0 (sl_at hr (k := 0) rfl)
  have r1 : W.cell? ⟨g, o + 1, none⟩ = some (.int .i64 ((y : Nat) : Int)) := far_cell F0 (sl_at hr (k := 1) rfl)
  have r2 : W.cell? ⟨g, o + 2, none⟩ = some (.int .i64 ((z : Nat) : Int)) := far_cell F0 (sl_at hr (k := 2) rfl)
  have hne1 : ¬ (k + 1) = g := by have := hgz.2; omega
  have e0 : ¬ (k + 1) = k := by omega
  have HC1 := Lib.hid (truth_any W q HZ.out a 0)
  clear hr hz MZ F0 BL hgz hlen
  subst hW; subst hk
  unfold zP num at *
  unfold ptr at *
  go_enter Tryz.func43, Tryz.ntmps43
  go_wp2_with (first
    | (go_at_call 63; refine HC1.out.mono ?_; rintro e w1 ⟨v1, rfl, hI1, hF1⟩; obtain ⟨f1, l1, rfl⟩ := hI1.func; have HF1 := Lib.hid hF1; have HI1 := Lib.hid hI1; clear hF1 hI1; have q0 := far_cell HF1.out b0; have q1 := far_cell HF1.out b1; have p0 := far_cell HF1.out r0; have p1 := far_cell HF1.out r1; have p2 := far_cell HF1.out r2;  have HC2 := Lib.hid (datum_any w1 q (z_far HZ.out HF1.out) z))
    | (go_at_call 62; (with_reducible refine HC2.out.mono ?_); rintro e w2 ⟨v2, rfl, hI2, hF2⟩; obtain ⟨f2, l2, rfl⟩ := hI2.func; have HF2 := Lib.hid (HF1.out.trans hF2 (by simp)); have HI2 := Lib.hid hI2; clear hF2 hI2; have q0' := far_cell HF2.out b0; have q1' := far_cell HF2.out b1; have p0' := far_cell HF2.out r0; have p1' := far_cell HF2.out r1))
  go_region_held3 (fun w' => w'.cell? ⟨w.heap.size, 0, none⟩ = some (.int .i64 a) ∧ w'.cell? ⟨w.heap.size, 1, none⟩ = some (.slice (some ⟨g, o, none⟩) 3 rc) ∧ w'.cell? ⟨g, o, none⟩ = some (.int .i64 (x : Nat)) ∧ w'.cell? ⟨g, o + 1, none⟩ = some (.int .i64 (y : Nat))) (first | (with_reducible assumption) | go_keep) (first
    | (go_at_call 61; (with_reducible refine (choose_any _ q (z_far HZ.out HF6.out) a HI5.out HI6.out HI2.out).mono ?_); rintro e w3 ⟨v3, rfl, hI3, hF3⟩; obtain ⟨bad, kind, at_, nn, s, A, m2, c, A2, m3, c2, ins, rfl, hins⟩ := hI3.form; have hk3 := keep4 hF3 (by assumption); have HF3 := Lib.hid (MM.Far.trans HF6.out hF3 (by simp)); have HI3 := Lib.hid hI3; have HB3 := Lib.hid (HB.out.far HF3.out (by simp)); clear hF3 hI3; obtain ⟨v0, v1, v2, v3, v4, v5, v6, v7, v8, v9, v10, y0, y1, y2, y3, y4, y5, y6, y7, y8, y9, y10, hfz⟩ := HB3.out.cells)
    | (go_at_call 62; (with_reducible refine (datum_any _ q (z_far HZ.out HF5.out) y).mono ?_); rintro e w6 ⟨v6, rfl, hI6, hF6⟩; obtain ⟨f6, l6, rfl⟩ := hI6.func; have hk6 := keep4 hF6 (by assumption); have HI5 := Lib.hid (HI5.out.far hF6 (by simp)); have HI2 := Lib.hid (HI2.out.far hF6 (by simp)); have HF6 := Lib.hid (MM.Far.trans (HF5.out) hF6 (by simp)); have HI6 := Lib.hid hI6; clear hF6 hI6)
    | (go_at_call 62; (with_reducible refine (datum_any _ q (z_drew (z_far HZ.out HF2.out)) x).mono ?_); rintro e w5 ⟨v5, rfl, hI5, hF5⟩; obtain ⟨f5, l5, rfl⟩ := hI5.func; have hk5 := keep4 hF5 (by assumption); have HI2 := Lib.hid (HI2.out.far (MM.Far.trans ((MM.Far.refl [] _).drew) hF5 (by simp)) (by simp)); have HF5 := Lib.hid (MM.Far.trans (MM.Far.drew HF2.out) hF5 (by simp)); have HI5 := Lib.hid hI5; clear hF5 hI5))
  go_wp2
  exact fin_pl rfl rfl rfl HB3.out (HF.out.trans HF3.out (by simp)) (by omega) HI3.out
end
end EW
end Go.Proofs.YtaghlpolljaedaaGreat
/-
  Contracts of the code's shapes set! and lambda. Conditions: sizes; the row of data may be.
-/
namespace Go.Proofs.YtaghlpolljaedaaGreat
open Go.RowKit
namespace EW
open LX SX RW6 EX
open RX (Nd)
section
variable {w0 w : World} {Z : List Nat} {q mb : Nat} {DA : Option Addr} {n c : Nat} {ns : List Nd}
set_option maxRecDepth 20000 in
set_option maxHeartbeats 4000000 in
theorem set_any (h : Env w0 w Z q (.slice DA n c) mb) (hN : NdR w0 DA ns) (hn : ns.length = n) (hs : ∀ i, (ndAt ns i).s.size ≤ 140737488355328) (a : Int) {rv : Value} {x y : Nat} {top : Bool} (hr : Sl w Z rv (ints [x, y])) (hx : x < n) :
    Calls Tryz.prog 46 #[ptr q, .agg #[num a, rv, .bool top]] w (PlanQ w Z q (setP ns a [x, y])) := by
  have hz := h.z
  obtain ⟨RA, rc, rfl, _⟩ := hr.form
  have hlen : (ints [x, y]).length = 2 := rfl
  rw [hlen] at hr ⊢
  obtain ⟨g, o, rfl⟩ := sl_some hr (k := 0) rfl
  have hgz := sl_out hr (k := 0) rfl
  obtain ⟨W, hW⟩ : ∃ W, ((w.alloc (.cells #[num a, .slice (some ⟨g, o, none⟩) 2 rc, .bool top] 95)).alloc zP) = W := ⟨_, rfl⟩
  obtain ⟨k, hk⟩ : ∃ k, w.heap.size = k := ⟨_, rfl⟩
  have F0 : MM.Far [] w W := by rw [← hW]; exact ((MM.Far.refl [] w).alloc _).alloc _
  have BL : MM.Row W k 95 [num a, .slice (some ⟨g, o, none⟩) 2 rc, .bool top] := by rw [← hW]; exact (row_new 95 [num a, .slice (some ⟨g, o, none⟩) 2 rc, .bool top] hk).alloc _
  have HB : Hid (PlBox W (k + 1)) := Lib.hid (by rw [← hW]; exact PlBox.new (by simp only [sz_alloc, hk]))
  have HZ : Hid (∀ x ∈ (k + 1) :: Z, x < W.heap.size) := Lib.hid (by rw [← hW]; exact z_cons (by simp only [sz_alloc, hk]) (z_alloc hz))
  have HF := Lib.hid F0
  have HK := Lib.hid hk
  have MZ : ∀ x ∈ (k + 1) :: Z, x ∈ Z ∨ w.heap.size ≤ x := fun x hx => (List.mem_cons.1 hx).elim (fun e => .inr (by omega)) .inl
  have b0 := BL.at (i := 0) rfl
  have b1 := BL.at (i := 1) rfl
  have b2 := BL.at (i := 2) rfl
  have r0 : W.cell? ⟨g, o, none⟩ = some (.int .i64 ((x : Nat) : Int)) := far_cell F0 (sl_at hr (k := 0) rfl)
  have r1 : W.cell? ⟨g, o + 1, none⟩ = some (.int .i64 ((y : Nat) : Int)) := far_cell F0 (sl_at hr (k := 1) rfl)
  have hne1 : ¬ (k + 1) = g := by have := hgz.2; omega
  have e0 : ¬ (k + 1) = k := by omega
  have HC1 := Lib.hid (name_any (h.step F0 MZ HZ.out) hN hn hs hx)
  unfold setP
  simp only [List.getD_cons_zero, List.getD_cons_succ]
  generalize nameOf ns x = nm at *
  clear hr hz MZ F0 BL hgz hlen h hN hn hs
  cases nm with
  | none =>
    simp only at HC1 ⊢
    subst hW; subst hk
    unfold zP num at *
    unfold ptr at *
    go_enter Tryz.func46, Tryz.ntmps46
    go_wp2_with (first
      | (go_at_call 83; (with_reducible refine HC1.out.mono ?_); rintro e w1 ⟨rfl, hF1⟩; have q0 := far_cell hF1 b0; have HF1 := Lib.hid hF1; clear hF1)
      | (go_at_call 55; refine (wrong_any (Z := (w.heap.size + 1) :: Z) _ q a).mono ?_; rintro e wp ⟨v, rfl, hI, hFp⟩; obtain ⟨bad, kind, at_, nn, s, A, m, c, A2, m2, c2, ins, rfl, hins⟩ := hI.form; have HFp := Lib.hid (MM.Far.trans (HF1.out) hFp (by simp)); have HBp := Lib.hid (HB.out.far HFp.out (by simp)); have HFq := Lib.hid (HF.out.trans HFp.out (by simp)); have HI := Lib.hid hI; clear hI; obtain ⟨v0, v1, v2, v3, v4, v5, v6, v7, v8, v9, v10, y0, y1, y2, y3, y4, y5, y6, y7, y8, y9, y10, hfz⟩ := HBp.out.cells))
    exact fin_pl rfl rfl rfl HBp.out HFq.out (by omega) HI.out
  | some s =>
    simp only at HC1 ⊢
    subst hW; subst hk
    unfold zP num at *
    unfold ptr at *
    go_enter Tryz.func46, Tryz.ntmps46
    go_wp2_with (first
      | (go_at_call 83; (with_reducible refine HC1.out.mono ?_); rintro e w1 ⟨rfl, hF1⟩; have q0 := far_cell hF1 b0; have q1 := far_cell hF1 b1; have p1 := far_cell hF1 r1; have HF1 := Lib.hid hF1; clear hF1))
    go_region_held3 (fun w' => w'.cell? ⟨w.heap.size, 0, none⟩ = some (.int .i64 a) ∧ w'.cell? ⟨w.heap.size, 1, none⟩ = some (.slice (some ⟨g, o, none⟩) 2 rc) ∧ w'.cell? ⟨g, o + 1, none⟩ = some (.int .i64 (y : Nat))) (first | (with_reducible assumption) | go_keep) (first
      | (go_at_call 62; (with_reducible refine (datum_any _ q (z_drew (z_far HZ.out HF1.out)) y).mono ?_); rintro e w5 ⟨v5, rfl, hI5, hF5⟩; obtain ⟨f5, l5, rfl⟩ := hI5.func; have hk5 := keep3 hF5 (by assumption); have HF5 := Lib.hid (MM.Far.trans (MM.Far.drew HF1.out) hF5 (by simp)); have HI5 := Lib.hid hI5; have HBa : Hid (PlBox (w5.alloc (.cells #[.func (.func f5) #[] l5] 75)) (w.heap.size + 1)) := Lib.hid ((HB.out.far HF5.out (by simp)).far ((MM.Far.refl [] w5).alloc _) (by simp)); clear hF5 hI5; obtain ⟨v0, v1, v2, v3, v4, v5, v6, v7, v8, v9, v10, y0, y1, y2, y3, y4, y5, y6, y7, y8, y9, y10, hfz⟩ := HBa.out.cells))
    go_wp2
    exact fin_pl rfl rfl rfl HBa.out ((HF.out.trans HF5.out (by simp)).alloc _) (by omega) ⟨_, _, _, rfl, Sl.nil _ _, sl_new 75 [.func (.func f5) #[] l5] rfl rfl (by unfold maxLen; omega) (z_far HZ.out HF5.out), Iss.cons (HI5.out.alloc _) (Iss.nil _ _ _)⟩
end
end EW
end Go.Proofs.YtaghlpolljaedaaGreat
/-
  Contract of the code's shape lambda. Conditions: sizes; the row of data may be.
-/
namespace Go.Proofs.YtaghlpolljaedaaGreat
open Go.RowKit
namespace EW
open LX SX RW6 EX
open RX (Nd)
def lamR (a kd : Int) (r : List Nat) : Option (List ByteArray) → Pl
  | none => .bad a
  | some names => if kd = 4 then function a names (body a r) else .bad a
section
variable {w0 w : World} {Z : List Nat} {q mb : Nat} {DA : Option Addr} {n c : Nat} {ns : List Nd}
set_option maxRecDepth 20000 in
set_option maxHeartbeats 4000000 in
theorem lambda_any (h : Env w0 w Z q (.slice DA n c) mb) (hN : NdR w0 DA ns) (hn : ns.length = n) (hs : ∀ i, (ndAt ns i).s.size ≤ 140737488355328) (hok : Ok ns) (a : Int) {rv : Value} {x : Nat} {r : List Nat} {top : Bool} (hr : Sl w Z rv (ints (x :: r))) (hx : x < n) :
    Calls Tryz.prog 45 #[ptr q, .agg #[num a, rv, .bool top]] w (PlanQ w Z q (lambdaP ns a (x :: r))) := by
  have hz := h.z
  have hr2 := hr
  rw [int_head] at hr2
  obtain ⟨g, o, rc, rfl, hc, _, _, hg, hgz, hS0⟩ := hr2.cons
  obtain ⟨m', hm'⟩ : ∃ m', (ints r).length = m' := ⟨_, rfl⟩
  rw [hm'] at hr hS0 ⊢
  obtain ⟨A', hA'⟩ : ∃ A', (if rc = 1 then some (⟨g, o, none⟩ : Addr) else some ⟨g, o + 1, none⟩) = A' := ⟨_, rfl⟩
  have hsl := fun X => slice_ints g o m' rc X
  rw [hA'] at hS0 hsl
  obtain ⟨W, hW⟩ : ∃ W, ((w.alloc (.cells #[num a, .slice (some ⟨g, o, none⟩) (m' + 1) rc, .bool top] 95)).alloc zP) = W := ⟨_, rfl⟩
  obtain ⟨k, hk⟩ : ∃ k, w.heap.size = k := ⟨_, rfl⟩
  have F0 : MM.Far [] w W := by rw [← hW]; exact ((MM.Far.refl [] w).alloc _).alloc _
  have BL : MM.Row W k 95 [num a, .slice (some ⟨g, o, none⟩) (m' + 1) rc, .bool top] := by rw [← hW]; exact (row_new 95 [num a, .slice (some ⟨g, o, none⟩) (m' + 1) rc, .bool top] hk).alloc _
  have HB : Hid (PlBox W (k + 1)) := Lib.hid (by rw [← hW]; exact PlBox.new (by simp only [sz_alloc, hk]))
  have HZ : Hid (∀ x ∈ (k + 1) :: Z, x < W.heap.size) := Lib.hid (by rw [← hW]; exact z_cons (by simp only [sz_alloc, hk]) (z_alloc hz))
  have HF := Lib.hid F0
  have HK := Lib.hid hk
  have MZ : ∀ x ∈ (k + 1) :: Z, x ∈ Z ∨ w.heap.size ≤ x := fun x hx => (List.mem_cons.1 hx).elim (fun e => .inr (by omega)) .inl
  have b0 := BL.at (i := 0) rfl
  have b1 := BL.at (i := 1) rfl
  have b2 := BL.at (i := 2) rfl
  have r0 := far_cell F0 hc
  have hne1 : ¬ (k + 1) = g := by omega
  have e0 : ¬ (k + 1) = k := by omega
  have HS := Lib.hid ((hS0.more MZ).far F0 (by simp))
  have hE := h.step F0 MZ HZ.out
  obtain ⟨db, d1, LA, lc, rfl, _, z0, z1, z2, z3, z4, hS2⟩ := hE.dat hN (i := x) (by omega)
  have x0 := hE.c0
  have hx0 : (0 : Int) ≤ (x : Int) := by omega
  have hx1 : (x : Int) < (n : Int) := by omega
  have HNM := Lib.hid (fun (w' : World) (f : MM.Far [] W w') (A : Option Addr) (m lc : Nat) (hl : Sl w' ((k + 1) :: Z) (.slice A m lc) (ints (ndAt ns x).l)) (hm : (ndAt ns x).l.length = m) => names_any (hE.to f) hN hn hs hl hm (fun i hi => (kid hok hi).2))
  have hLP : lambdaP ns a (x :: r) = lamR a (ndAt ns x).kind r (namesOf ns (ndAt ns x).l) := by
    unfold lambdaP lamR
    simp only [List.getD_cons_zero, List.drop_succ_cons, List.drop_zero]
    cases namesOf ns (ndAt ns x).l <;> rfl
  rw [hLP]
  clear hLP
  generalize ndAt ns x = d at z0 z1 z2 z3 z4 hS2 HNM ⊢
  obtain ⟨kd, at_, nn, s, ll⟩ := d
  simp only at z0 z1 z2 z3 z4 hS2 HNM ⊢
  obtain ⟨m1, hm1⟩ : ∃ m1, ll.length = m1 := ⟨_, rfl⟩
  rw [hm1] at z4 hS2
  have HM1 := Lib.hid hm1
  obtain ⟨R, hR⟩ : ∃ R, namesOf ns ll = R := ⟨_, rfl⟩
  rw [hR] at HNM ⊢
  obtain ⟨pl, hpl⟩ : ∃ pl, lamR a kd r R = pl := ⟨_, rfl⟩
  rw [hpl]
  have HPL := Lib.hid hpl
  have HSD := Lib.hid hS2
  clear hr hr2 hz MZ F0 BL hc hg hgz hS0 hA' hm' hE h hN hn hs hok hm1 hR hpl hS2
  subst hW; subst hk
  unfold zP num at *
  unfold ptr at *
  go_enter Tryz.func45, Tryz.ntmps45
  go_wp2
  generalize (w.alloc (.cells #[.int .i64 a, .slice (some ⟨g, o, none⟩) (m' + 1) rc, .bool top] 95)).alloc (.cells #[.bool false, .int .u8 0, .int .i64 0, .int .i64 0, .int .i64 0, .string ⟨#[]⟩, .slice none 0 0, .int .u64 0, .slice none 0 0, .slice none 0 0, .nilFunc] 78) = W at *
  go_region_held3 (fun w' => w'.cell? ⟨w.heap.size, 1, none⟩ = some (.slice (some ⟨g, o, none⟩) (m' + 1) rc) ∧ w'.cell? ⟨q, 0, none⟩ = some (.slice (some ⟨db, d1, none⟩) n c) ∧ w'.cell? ⟨g, o, none⟩ = some (.int .i64 x) ∧ w'.cell? ⟨db, d1 + x * 5, none⟩ = some (.int .u8 kd) ∧ w'.cell? ⟨db, d1 + x * 5 + 1, none⟩ = some (.int .i64 at_) ∧ w'.cell? ⟨db, d1 + x * 5 + 2, none⟩ = some (.int .i64 nn) ∧ w'.cell? ⟨db, d1 + x * 5 + 3, none⟩ = some (.string s) ∧ w'.cell? ⟨db, d1 + x * 5 + 4, none⟩ = some (.slice LA m1 lc)) (go_keep) (fail)
  obtain ⟨W2, hW2⟩ : ∃ W2, (W.alloc (.cells #[.int .u8 kd, .int .i64 at_, .int .i64 nn, .string s, .slice LA m1 lc] 53)).drew = W2 := ⟨_, rfl⟩
  have G0 : MM.Far [] W W2 := by rw [← hW2]; exact ((MM.Far.refl [] W).alloc _).drew
  have NB : MM.Row W2 W.heap.size 53 [.int .u8 kd, .int .i64 at_, .int .i64 nn, .string s, .slice LA m1 lc] := by rw [← hW2]; exact (MM.Row.new W 53 [.int .u8 kd, .int .i64 at_, .int .i64 nn, .string s, .slice LA m1 lc]).drew
  obtain ⟨nb, hnb⟩ : ∃ nb, W.heap.size = nb := ⟨_, rfl⟩
  rw [hW2]
  rw [hnb] at NB ⊢
  have t0 := far_cell G0 b0
  have t1 := far_cell G0 b1
  have n0 := NB.at (i := 0) rfl
  have n4 := NB.at (i := 4) rfl
  have HG0 := Lib.hid G0
  have HC1 := Lib.hid (HNM.out W2 G0 LA m1 lc (HSD.out.far G0 (by simp)) HM1.out)
  clear hW2 G0 NB x0 z0 z1 z2 z3 z4 hnb b2 HNM HSD
  cases R with
  | none =>
    have HE : Hid (pl = .bad a) := Lib.hid HPL.out.symm
    by_cases h4 : kd = 4
    · subst h4
      go_wp2_with (first
        | (go_at_call 81; (with_reducible refine HC1.out.mono ?_); rintro e w1 ⟨hRe, hF1⟩; obtain rfl : e = .returned (.tuple #[.slice none 0 0, .bool false]) := hRe; have q0 := far_cell hF1 t0; have p0 := far_cell hF1 n0; have HF1 := Lib.hid hF1; clear hF1)
        | (go_at_call 55; refine (wrong_any (Z := (w.heap.size + 1) :: Z) _ q a).mono ?_; rintro e wp ⟨v, rfl, hI, hFp⟩; obtain ⟨bad, kind, at_, nn, s, A, m, c, A2, m2, c2, ins, rfl, hins⟩ := hI.form; have HFp := Lib.hid (MM.Far.trans ((HG0.out.trans HF1.out (by simp))) hFp (by simp)); have HBp := Lib.hid (HB.out.far HFp.out (by simp)); have HFq := Lib.hid (HF.out.trans HFp.out (by simp)); have HI := Lib.hid hI; clear hI; obtain ⟨v0, v1, v2, v3, v4, v5, v6, v7, v8, v9, v10, y0, y1, y2, y3, y4, y5, y6, y7, y8, y9, y10, hfz⟩ := HBp.out.cells))
      rw [HE.out]
      exact fin_pl rfl rfl rfl HBp.out HFq.out (by omega) HI.out
    · have h5 : (kd == 4) = false := by simp [h4]
      have h6 : (kd != 4) = true := by simp [h4]
      go_wp2_with (first
        | (go_at_call 81; (with_reducible refine HC1.out.mono ?_); rintro e w1 ⟨hRe, hF1⟩; obtain rfl : e = .returned (.tuple #[.slice none 0 0, .bool false]) := hRe; have q0 := far_cell hF1 t0; have p0 := far_cell hF1 n0; have HF1 := Lib.hid hF1; clear hF1)
        | (go_at_call 55; refine (wrong_any (Z := (w.heap.size + 1) :: Z) _ q a).mono ?_; rintro e wp ⟨v, rfl, hI, hFp⟩; obtain ⟨bad, kind, at_, nn, s, A, m, c, A2, m2, c2, ins, rfl, hins⟩ := hI.form; have HFp := Lib.hid (MM.Far.trans ((HG0.out.trans HF1.out (by simp))) hFp (by simp)); have HBp := Lib.hid (HB.out.far HFp.out (by simp)); have HFq := Lib.hid (HF.out.trans HFp.out (by simp)); have HI := Lib.hid hI; clear hI; obtain ⟨v0, v1, v2, v3, v4, v5, v6, v7, v8, v9, v10, y0, y1, y2, y3, y4, y5, y6, y7, y8, y9, y10, hfz⟩ := HBp.out.cells))
      rw [HE.out]
      exact fin_pl rfl rfl rfl HBp.out HFq.out (by omega) HI.out
  | some names =>
    by_cases h4 : kd = 4
    · have HE : Hid (pl = function a names (body a r)) := Lib.hid (by have := HPL.out; simp only [lamR] at this; rw [if_pos h4] at this; exact this.symm)
      subst h4
      go_wp2_with (first
        | (go_at_call 81; (with_reducible refine HC1.out.mono ?_); rintro e w1 ⟨hRe, hF1⟩; obtain ⟨vn, rfl, hSn⟩ : ∃ v, e = .returned (.tuple #[v, .bool true]) ∧ Sl w1 ((w.heap.size + 1) :: Z) v (strs names) := hRe; obtain ⟨nB, nbc, rfl, _⟩ := hSn.form; have q0 := far_cell hF1 t0; have q1 := far_cell hF1 t1; have p0 := far_cell hF1 n0; have HSN := Lib.hid hSn; have HF1 := Lib.hid (HG0.out.trans hF1 (by simp)); clear hF1 hSn))
      go_region_held3 (fun w' => w'.cell? ⟨w.heap.size, 0, none⟩ = some (.int .i64 a) ∧ w'.cell? ⟨w.heap.size, 1, none⟩ = some (.slice (some ⟨g, o, none⟩) (m' + 1) rc)) (first | (with_reducible assumption) | go_keep) (first
        | (go_at_call 82; (with_reducible refine (function_any _ q (z_far HZ.out HF5.out) a (HSN.out.far HFc.out (by simp)) HI5.out).mono ?_); rintro e w3 ⟨v3, rfl, hI3, hF3⟩; obtain ⟨bad, kind, at2, nn2, s2, A, m2, c, A2, m3, c2, ins, rfl, hins⟩ := hI3.form; have hk3 := keep2 hF3 (by assumption); have HF3 := Lib.hid (MM.Far.trans HF5.out hF3 (by simp)); have HI3 := Lib.hid hI3; have HB3 := Lib.hid (HB.out.far HF3.out (by simp)); clear hF3 hI3; obtain ⟨v0, v1, v2, v3, v4, v5, v6, v7, v8, v9, v10, y0, y1, y2, y3, y4, y5, y6, y7, y8, y9, y10, hfz⟩ := HB3.out.cells)
        | (go_at_call 48; (with_reducible refine (body_any _ q (z_drew (z_far HZ.out HF1.out)) a (HS.out.far (MM.Far.drew HF1.out) (by simp))).mono ?_); rintro e w5 ⟨v5, rfl, hI5, hF5⟩; obtain ⟨f5, l5, rfl⟩ := hI5.func; have hk5 := keep2 hF5 (by assumption); have HFc := Lib.hid (MM.Far.trans ((MM.Far.refl [] w1).drew) hF5 (by simp)); have HF5 := Lib.hid (MM.Far.trans (MM.Far.drew HF1.out) hF5 (by simp)); have HI5 := Lib.hid hI5; clear hF5 hI5))
      go_wp2
      rw [HE.out]
      exact fin_pl rfl rfl rfl HB3.out (HF.out.trans HF3.out (by simp)) (by omega) HI3.out
    · have HE : Hid (pl = .bad a) := Lib.hid (by have := HPL.out; simp only [lamR] at this; rw [if_neg h4] at this; exact this.symm)
      have h5 : (kd == 4) = false := by simp [h4]
      have h6 : (kd != 4) = true := by simp [h4]
      go_wp2_with (first
        | (go_at_call 81; (with_reducible refine HC1.out.mono ?_); rintro e w1 ⟨hRe, hF1⟩; obtain ⟨vn, rfl, hSn⟩ : ∃ v, e = .returned (.tuple #[v, .bool true]) ∧ Sl w1 ((w.heap.size + 1) :: Z) v (strs names) := hRe; obtain ⟨nB, nbc, rfl, _⟩ := hSn.form; have q0 := far_cell hF1 t0; have p0 := far_cell hF1 n0; have HF1 := Lib.hid hF1; clear hF1)
        | (go_at_call 55; refine (wrong_any (Z := (w.heap.size + 1) :: Z) _ q a).mono ?_; rintro e wp ⟨v, rfl, hI, hFp⟩; obtain ⟨bad, kind, at_, nn, s, A, m, c, A2, m2, c2, ins, rfl, hins⟩ := hI.form; have HFp := Lib.hid (MM.Far.trans ((HG0.out.trans HF1.out (by simp))) hFp (by simp)); have HBp := Lib.hid (HB.out.far HFp.out (by simp)); have HFq := Lib.hid (HF.out.trans HFp.out (by simp)); have HI := Lib.hid hI; clear hI; obtain ⟨v0, v1, v2, v3, v4, v5, v6, v7, v8, v9, v10, y0, y1, y2, y3, y4, y5, y6, y7, y8, y9, y10, hfz⟩ := HBp.out.cells))
      rw [HE.out]
      exact fin_pl rfl rfl rfl HBp.out HFq.out (by omega) HI.out
end
end EW
end Go.Proofs.YtaghlpolljaedaaGreat
/-
  Contract of the code's shape let. Conditions: sizes; the row of data may be.
-/
namespace Go.Proofs.YtaghlpolljaedaaGreat
open Go.RowKit
namespace EW
open LX SX RW6 EX
open RX (Nd)
def letN (a : Int) (r vs : List Nat) : Option (List ByteArray) → Pl
  | none => .bad a
  | some names => call a names (body a r) (vs.map .dat)
def letR (ns : List Nd) (a : Int) (r : List Nat) : Option (List Nat × List Nat) → Pl
  | none => .bad a
  | some (bs, vs) => letN a r vs (namesOf ns bs)
theorem letP_eq (ns : List Nd) (a : Int) (x : Nat) (r : List Nat) : letP ns a (x :: r) = letR ns a r (pairsOf ns x) := by
  unfold letP letR
  simp only [List.getD_cons_zero, List.drop_succ_cons, List.drop_zero]
  cases pairsOf ns x with
  | none => rfl
  | some p =>
    obtain ⟨bs, vs⟩ := p
    simp only []
    unfold letN
    cases namesOf ns bs <;> rfl
section
variable {w0 w : World} {Z : List Nat} {q mb : Nat} {DA : Option Addr} {n c : Nat} {ns : List Nd}
set_option maxRecDepth 20000 in
set_option maxHeartbeats 4000000 in
theorem let_any (h : Env w0 w Z q (.slice DA n c) mb) (hN : NdR w0 DA ns) (hn : ns.length = n) (hs : ∀ i, (ndAt ns i).s.size ≤ 140737488355328) (hok : Ok ns) (hll : ∀ i, i < n → (ndAt ns i).l.length ≤ 100000) (a : Int) {rv : Value} {x : Nat} {r : List Nat} {top : Bool} (hr : Sl w Z rv (ints (x :: r))) (hx : x < n) :
    Calls Tryz.prog 50 #[ptr q, .agg #[num a, rv, .bool top]] w (PlanQ w Z q (letP ns a (x :: r))) := by
  have hz := h.z
  rw [letP_eq]
  have hr2 := hr
  rw [int_head] at hr2
  obtain ⟨g, o, rc, rfl, hc, _, _, hg, hgz, hS0⟩ := hr2.cons
  obtain ⟨m', hm'⟩ : ∃ m', (ints r).length = m' := ⟨_, rfl⟩
  rw [hm'] at hr hS0 ⊢
  obtain ⟨A', hA'⟩ : ∃ A', (if rc = 1 then some (⟨g, o, none⟩ : Addr) else some ⟨g, o + 1, none⟩) = A' := ⟨_, rfl⟩
  have hsl := fun X => slice_ints g o m' rc X
  rw [hA'] at hS0 hsl
  obtain ⟨W, hW⟩ : ∃ W, ((w.alloc (.cells #[num a, .slice (some ⟨g, o, none⟩) (m' + 1) rc, .bool top] 95)).alloc zP) = W := ⟨_, rfl⟩
  obtain ⟨k, hk⟩ : ∃ k, w.heap.size = k := ⟨_, rfl⟩
  have F0 : MM.Far [] w W := by rw [← hW]; exact ((MM.Far.refl [] w).alloc _).alloc _
  have BL : MM.Row W k 95 [num a, .slice (some ⟨g, o, none⟩) (m' + 1) rc, .bool top] := by rw [← hW]; exact (row_new 95 [num a, .slice (some ⟨g, o, none⟩) (m' + 1) rc, .bool top] hk).alloc _
  have HB : Hid (PlBox W (k + 1)) := Lib.hid (by rw [← hW]; exact PlBox.new (by simp only [sz_alloc, hk]))
  have HZ : Hid (∀ x ∈ (k + 1) :: Z, x < W.heap.size) := Lib.hid (by rw [← hW]; exact z_cons (by simp only [sz_alloc, hk]) (z_alloc hz))
  have HF := Lib.hid F0
  have HK := Lib.hid hk
  have MZ : ∀ x ∈ (k + 1) :: Z, x ∈ Z ∨ w.heap.size ≤ x := fun x hx => (List.mem_cons.1 hx).elim (fun e => .inr (by omega)) .inl
  have b0 := BL.at (i := 0) rfl
  have b1 := BL.at (i := 1) rfl
  have b2 := BL.at (i := 2) rfl
  have r0 := far_cell F0 hc
  have hne1 : ¬ (k + 1) = g := by omega
  have e0 : ¬ (k + 1) = k := by omega
  have HS := Lib.hid ((hS0.more MZ).far F0 (by simp))
  have hE := h.step F0 MZ HZ.out
  have HC1 := Lib.hid (pairs_any hE hN hn hok hll hx)
  have HNM := Lib.hid (fun (w' : World) (f : MM.Far [] W w') (A : Option Addr) (m lc : Nat) (l : List Nat) (hl : Sl w' ((k + 1) :: Z) (.slice A m lc) (ints l)) (hm : l.length = m) (hin : ∀ i ∈ l, i < ns.length) => names_any (hE.to f) hN hn hs hl hm hin)
  have HPF : Hid (∀ bs vs, pairsOf ns x = some (bs, vs) → (∀ i ∈ bs, i < ns.length) ∧ vs.length ≤ 1099511627776) := Lib.hid (fun bs vs e => by
    have h1 := pairs_facts hok e
    refine ⟨fun i hi => h1.2.2 i (List.mem_append_left _ hi), ?_⟩
    unfold pairsOf at e
    cases hp : pairsG ns (ndAt ns x).l [] [] with
    | none => rw [hp] at e; cases e
    | some p =>
      rw [hp] at e
      simp only [] at e
      split at e
      · injection e with e
        subst e
        have h2 := (pairsG_facts hok _ _ _ _ _ hp rfl (by simp)).2.2.2
        have := hll x hx
        simp at h2
        omega
      · cases e)
  obtain ⟨R, hR⟩ : ∃ R, pairsOf ns x = R := ⟨_, rfl⟩
  rw [hR] at HC1 HPF ⊢
  clear hr hr2 hz MZ F0 BL hc hg hgz hS0 hA' hm' hE h hN hn hs hok hll hR b2
  cases R with
  | none =>
    subst hW; subst hk
    unfold zP num at *
    unfold ptr at *
    show Calls _ _ _ _ (PlanQ w Z q (.bad a))
    go_enter Tryz.func50, Tryz.ntmps50
    go_wp2_with (first
      | (go_at_call 88; (with_reducible refine HC1.out.mono ?_); rintro e w1 ⟨hRe, hF1⟩; obtain ⟨bv, A0, c0, rfl, hSb⟩ : ∃ bv A c, e = .returned (.tuple #[bv, .slice A 0 c, .bool false]) ∧ Sl w1 ((w.heap.size + 1) :: Z) bv (ints []) := hRe; obtain ⟨A1, c1, rfl, _⟩ := hSb.form; have HC2 := Lib.hid (HNM.out w1 hF1 A1 _ c1 [] hSb rfl (by simp));  have q0 := far_cell hF1 b0; have q1 := far_cell hF1 b1; have HF1 := Lib.hid hF1; clear hF1)
      | (go_at_call 81; (with_reducible refine HC2.out.mono ?_); rintro e w2 ⟨hRe2, hF2⟩; obtain ⟨vn, rfl, hSn⟩ : ∃ v, e = .returned (.tuple #[v, .bool true]) ∧ Sl w2 ((w.heap.size + 1) :: Z) v (strs []) := hRe2; clear hSn;  have q0 := far_cell hF2 q0; have q1 := far_cell hF2 q1; have HF2 := Lib.hid (HF1.out.trans hF2 (by simp)); clear hF2)
      | (go_at_call 55; refine (wrong_any (Z := (w.heap.size + 1) :: Z) _ q a).mono ?_; rintro e wp ⟨v, rfl, hI, hFp⟩; obtain ⟨bad, kind, at_, nn, s, A, m, c, A2, m2, c2, ins, rfl, hins⟩ := hI.form; have HFp := Lib.hid (MM.Far.trans (HF2.out) hFp (by simp)); have HBp := Lib.hid (HB.out.far HFp.out (by simp)); have HFq := Lib.hid (HF.out.trans HFp.out (by simp)); have HI := Lib.hid hI; clear hI; obtain ⟨v0, v1, v2, v3, v4, v5, v6, v7, v8, v9, v10, y0, y1, y2, y3, y4, y5, y6, y7, y8, y9, y10, hfz⟩ := HBp.out.cells))
    exact fin_pl rfl rfl rfl HBp.out HFq.out (by omega) HI.out
  | some p =>
    obtain ⟨bs, vs⟩ := p
    obtain ⟨hin, hvl⟩ := HPF.out bs vs rfl
    have HIN := Lib.hid hin
    have HVL := Lib.hid hvl
    clear hin hvl HPF
    show Calls _ _ _ _ (PlanQ w Z q (letN a r vs (namesOf ns bs)))
    obtain ⟨R2, hR2⟩ : ∃ R2, namesOf ns bs = R2 := ⟨_, rfl⟩
    rw [hR2]
    have HR2 := Lib.hid hR2
    clear hR2
    cases R2 with
    | none =>
      subst hW; subst hk
      unfold zP num at *
      unfold ptr at *
      show Calls _ _ _ _ (PlanQ w Z q (.bad a))
      go_enter Tryz.func50, Tryz.ntmps50
      go_wp2_with (first
        | (go_at_call 88; (with_reducible refine HC1.out.mono ?_); rintro e w1 ⟨hRe, hF1⟩; obtain ⟨bv, vv, rfl, hSb, hSv⟩ : ∃ bv vv, e = .returned (.tuple #[bv, vv, .bool true]) ∧ Sl w1 ((w.heap.size + 1) :: Z) bv (ints bs) ∧ Sl w1 ((w.heap.size + 1) :: Z) vv (ints vs) := hRe; obtain ⟨A1, c1, rfl, _⟩ := hSb.form; obtain ⟨A2, c2, rfl, _⟩ := hSv.form; have HC2 := Lib.hid (HNM.out w1 hF1 A1 _ c1 bs hSb (ints_len bs).symm HIN.out); rw [HR2.out] at HC2; clear hSb hSv;  have q0 := far_cell hF1 b0; have q1 := far_cell hF1 b1; have HF1 := Lib.hid hF1; clear hF1)
        | (go_at_call 81; (with_reducible refine HC2.out.mono ?_); rintro e w2 ⟨hRe2, hF2⟩; obtain rfl : e = .returned (.tuple #[.slice none 0 0, .bool false]) := hRe2;  have q0 := far_cell hF2 q0; have q1 := far_cell hF2 q1; have HF2 := Lib.hid (HF1.out.trans hF2 (by simp)); clear hF2)
        | (go_at_call 55; refine (wrong_any (Z := (w.heap.size + 1) :: Z) _ q a).mono ?_; rintro e wp ⟨v, rfl, hI, hFp⟩; obtain ⟨bad, kind, at_, nn, s, A, m, c, A2, m2, c2, ins, rfl, hins⟩ := hI.form; have HFp := Lib.hid (MM.Far.trans (HF2.out) hFp (by simp)); have HBp := Lib.hid (HB.out.far HFp.out (by simp)); have HFq := Lib.hid (HF.out.trans HFp.out (by simp)); have HI := Lib.hid hI; clear hI; obtain ⟨v0, v1, v2, v3, v4, v5, v6, v7, v8, v9, v10, y0, y1, y2, y3, y4, y5, y6, y7, y8, y9, y10, hfz⟩ := HBp.out.cells))
      exact fin_pl rfl rfl rfl HBp.out HFq.out (by omega) HI.out
    | some names =>
      obtain ⟨m1, hm1⟩ : ∃ m1, (ints vs).length = m1 := ⟨_, rfl⟩
      have HM1 := Lib.hid hm1
      clear hm1
      subst hW; subst hk
      unfold zP num at *
      unfold ptr at *
      show Calls _ _ _ _ (PlanQ w Z q (call a names (body a r) (vs.map .dat)))
      go_enter Tryz.func50, Tryz.ntmps50
      go_wp2_with (first
        | (go_at_call 88; (with_reducible refine HC1.out.mono ?_); rintro e w1 ⟨hRe, hF1⟩; obtain ⟨bv, vv, rfl, hSb, hSv⟩ : ∃ bv vv, e = .returned (.tuple #[bv, vv, .bool true]) ∧ Sl w1 ((w.heap.size + 1) :: Z) bv (ints bs) ∧ Sl w1 ((w.heap.size + 1) :: Z) vv (ints vs) := hRe; obtain ⟨A1, c1, rfl, _⟩ := hSb.form; obtain ⟨A2, c2, rfl, _⟩ := hSv.form; have HC2 := Lib.hid (HNM.out w1 hF1 A1 _ c1 bs hSb (ints_len bs).symm HIN.out); rw [HR2.out] at HC2; rw [HM1.out] at hSv ⊢; have HSV := Lib.hid hSv; clear hSb hSv;  have q0 := far_cell hF1 b0; have q1 := far_cell hF1 b1; have HF1 := Lib.hid hF1; clear hF1)
        | (go_at_call 81; (with_reducible refine HC2.out.mono ?_); rintro e w2 ⟨hRe2, hF2⟩; obtain ⟨vn, rfl, hSn⟩ : ∃ v, e = .returned (.tuple #[v, .bool true]) ∧ Sl w2 ((w.heap.size + 1) :: Z) v (strs names) := hRe2; obtain ⟨nB, nbc, rfl, _⟩ := hSn.form; have HSN := Lib.hid hSn; have HSV2 := Lib.hid (HSV.out.far hF2 (by simp)); clear hSn;  have q0 := far_cell hF2 q0; have q1 := far_cell hF2 q1; have HF2 := Lib.hid (HF1.out.trans hF2 (by simp)); clear hF2))
      go_region_held3 (fun w' => w'.cell? ⟨w.heap.size, 0, none⟩ = some (.int .i64 a) ∧ w'.cell? ⟨w.heap.size, 1, none⟩ = some (.slice (some ⟨g, o, none⟩) (m' + 1) rc)) (first | (with_reducible assumption) | go_keep) (first
        | (go_at_call 89; (with_reducible refine (call_any _ q (z_far HZ.out HF6.out) a (HSN.out.far HFd.out (by simp)) HI5.out HS6.out HI6.out HM6.out).mono ?_); rintro e w3 ⟨v3, rfl, hI3, hF3⟩; obtain ⟨bad, kind, at2, nn2, s2, A, m2, c, A2, m3, c2, ins, rfl, hins⟩ := hI3.form; have hk3 := keep2 hF3 (by assumption); have HF3 := Lib.hid (MM.Far.trans HF6.out hF3 (by simp)); have HI3 := Lib.hid hI3; have HB3 := Lib.hid (HB.out.far HF3.out (by simp)); clear hF3 hI3; obtain ⟨v0, v1, v2, v3, v4, v5, v6, v7, v8, v9, v10, y0, y1, y2, y3, y4, y5, y6, y7, y8, y9, y10, hfz⟩ := HB3.out.cells)
        | (go_at_call 85; (with_reducible refine (all_any _ q (z_far HZ.out HF5.out) (HSV2.out.far HFc.out (by simp)) ((ints_len vs).symm.trans HM1.out) (by rw [← HM1.out, ints_len]; exact HVL.out)).mono ?_); rintro e w6 ⟨g6, m6, vs6, rfl, hm6, hS6, hI6, hF6⟩; have hk6 := keep2 hF6 (by assumption); have HI5 := Lib.hid (HI5.out.far hF6 (by simp)); have HFd := Lib.hid (MM.Far.trans HFc.out hF6 (by simp)); have HF6 := Lib.hid (MM.Far.trans HF5.out hF6 (by simp)); have HS6 := Lib.hid hS6; have HI6 := Lib.hid hI6; have HM6 : Hid (m6 ≤ 1099511627776) := Lib.hid (by rw [hm6, List.length_map]; exact HVL.out); clear hF6 hI6 hS6 hm6)
        | (go_at_call 48; (with_reducible refine (body_any _ q (z_drew (z_far HZ.out HF2.out)) a (HS.out.far (MM.Far.drew HF2.out) (by simp))).mono ?_); rintro e w5 ⟨v5, rfl, hI5, hF5⟩; obtain ⟨f5, l5, rfl⟩ := hI5.func; have hk5 := keep2 hF5 (by assumption); have HFc := Lib.hid (MM.Far.trans ((MM.Far.refl [] w2).drew) hF5 (by simp)); have HF5 := Lib.hid (MM.Far.trans (MM.Far.drew HF2.out) hF5 (by simp)); have HI5 := Lib.hid hI5; clear hF5 hI5))
      go_wp2
      exact fin_pl rfl rfl rfl HB3.out (HF.out.trans HF3.out (by simp)) (by omega) HI3.out
end
end EW
end Go.Proofs.YtaghlpolljaedaaGreat
/-
  Contract of the code's shape let*. Conditions: sizes; the row of data may be.
-/
namespace Go.Proofs.YtaghlpolljaedaaGreat
open Go.RowKit
namespace EW
open LX SX RW6 EX
open RX (Nd)
def starN (a : Int) (r vs : List Nat) : Option (List ByteArray) → Pl
  | none => .bad a
  | some names => nestedP a names vs (body a r)
def starR (ns : List Nd) (a : Int) (r : List Nat) : Option (List Nat × List Nat) → Pl
  | none => .bad a
  | some (bs, vs) => starN a r vs (starG ns bs [])
theorem starP_eq (ns : List Nd) (a : Int) (x : Nat) (r : List Nat) : starP ns a (x :: r) = starR ns a r (pairsOf ns x) := by
  unfold starP starR
  simp only [List.getD_cons_zero, List.drop_succ_cons, List.drop_zero]
  cases pairsOf ns x with
  | none => rfl
  | some p =>
    obtain ⟨bs, vs⟩ := p
    simp only []
    unfold starN
    cases starG ns bs [] <;> rfl
/-- At the head of a round over names. -/
def StarI (w1 : World) (ns : List Nd) (bs : List Nat) (R : Option (List ByteArray)) (v : Value) (acc : List ByteArray) (k : Nat) (wr : World) : Prop :=
  MM.Far [] w1 wr ∧ wr.ownsRow w1.heap.size 9 1 v acc.length (strs acc) ∧ starG ns (bs.drop k) acc = R ∧ acc.length = k
section
variable {w0 w : World} {Z : List Nat} {q mb : Nat} {DA : Option Addr} {n c : Nat} {ns : List Nd}
set_option maxRecDepth 20000 in
set_option maxHeartbeats 4000000 in
theorem star_any (h : Env w0 w Z q (.slice DA n c) mb) (hN : NdR w0 DA ns) (hn : ns.length = n) (hs : ∀ i, (ndAt ns i).s.size ≤ 140737488355328) (hok : Ok ns) (hll : ∀ i, i < n → (ndAt ns i).l.length ≤ 100000) (a : Int) {rv : Value} {x : Nat} {r : List Nat} {top : Bool} (hr : Sl w Z rv (ints (x :: r))) (hx : x < n) :
    Calls Tryz.prog 51 #[ptr q, .agg #[num a, rv, .bool top]] w (PlanQ w Z q (starP ns a (x :: r))) := by
  have hz := h.z
  rw [starP_eq]
  have hr2 := hr
  rw [int_head] at hr2
  obtain ⟨g, o, rc, rfl, hc, _, _, hg, hgz, hS0⟩ := hr2.cons
  obtain ⟨m', hm'⟩ : ∃ m', (ints r).length = m' := ⟨_, rfl⟩
  rw [hm'] at hr hS0 ⊢
  obtain ⟨A', hA'⟩ : ∃ A', (if rc = 1 then some (⟨g, o, none⟩ : Addr) else some ⟨g, o + 1, none⟩) = A' := ⟨_, rfl⟩
  have hsl := fun X => slice_ints g o m' rc X
  rw [hA'] at hS0 hsl
  obtain ⟨W, hW⟩ : ∃ W, ((w.alloc (.cells #[num a, .slice (some ⟨g, o, none⟩) (m' + 1) rc, .bool top] 95)).alloc zP) = W := ⟨_, rfl⟩
  obtain ⟨k, hk⟩ : ∃ k, w.heap.size = k := ⟨_, rfl⟩
  have F0 : MM.Far [] w W := by rw [← hW]; exact ((MM.Far.refl [] w).alloc _).alloc _
  have BL : MM.Row W k 95 [num a, .slice (some ⟨g, o, none⟩) (m' + 1) rc, .bool top] := by rw [← hW]; exact (row_new 95 [num a, .slice (some ⟨g, o, none⟩) (m' + 1) rc, .bool top] hk).alloc _
  have HB : Hid (PlBox W (k + 1)) := Lib.hid (by rw [← hW]; exact PlBox.new (by simp only [sz_alloc, hk]))
  have HZ : Hid (∀ x ∈ (k + 1) :: Z, x < W.heap.size) := Lib.hid (by rw [← hW]; exact z_cons (by simp only [sz_alloc, hk]) (z_alloc hz))
  have HF := Lib.hid F0
  have HK := Lib.hid hk
  have MZ : ∀ x ∈ (k + 1) :: Z, x ∈ Z ∨ w.heap.size ≤ x := fun x hx => (List.mem_cons.1 hx).elim (fun e => .inr (by omega)) .inl
  have b0 := BL.at (i := 0) rfl
  have b1 := BL.at (i := 1) rfl
  have b2 := BL.at (i := 2) rfl
  have r0 := far_cell F0 hc
  have hne1 : ¬ (k + 1) = g := by omega
  have e0 : ¬ (k + 1) = k := by omega
  have HS := Lib.hid ((hS0.more MZ).far F0 (by simp))
  have hE := h.step F0 MZ HZ.out
  have HC1 := Lib.hid (pairs_any hE hN hn hok hll hx)
  have HNM := Lib.hid (fun (w' : World) (f : MM.Far [] W w') (i : Nat) (hi : i < n) => name_any (hE.to f) hN hn hs hi)
  have HNN := Lib.hid hn
  have HPF : Hid (∀ bs vs, pairsOf ns x = some (bs, vs) → (∀ i ∈ bs, i < ns.length) ∧ vs.length ≤ 1099511627776 ∧ bs.length = vs.length) := Lib.hid (fun bs vs e => by
    have h1 := pairs_facts hok e
    refine ⟨fun i hi => h1.2.2 i (List.mem_append_left _ hi), ?_, h1.1⟩
    unfold pairsOf at e
    cases hp : pairsG ns (ndAt ns x).l [] [] with
    | none => rw [hp] at e; cases e
    | some p =>
      rw [hp] at e
      simp only [] at e
      split at e
      · injection e with e
        subst e
        have h2 := (pairsG_facts hok _ _ _ _ _ hp rfl (by simp)).2.2.2
        have := hll x hx
        simp at h2
        omega
      · cases e)
  obtain ⟨R, hR⟩ : ∃ R, pairsOf ns x = R := ⟨_, rfl⟩
  rw [hR] at HC1 HPF ⊢
  clear hr hr2 hz MZ F0 BL hc hg hgz hS0 hA' hm' hE h hN hn hs hok hll hR b2
  cases R with
  | none =>
    subst hW; subst hk
    unfold zP num at *
    unfold ptr at *
    show Calls _ _ _ _ (PlanQ w Z q (.bad a))
    go_enter Tryz.func51, Tryz.ntmps51
    go_wp2_with (first
      | (go_at_call 88; (with_reducible refine HC1.out.mono ?_); rintro e w1 ⟨hRe, hF1⟩; obtain ⟨bv, A0, c0, rfl, hSb⟩ : ∃ bv A c, e = .returned (.tuple #[bv, .slice A 0 c, .bool false]) ∧ Sl w1 ((w.heap.size + 1) :: Z) bv (ints []) := hRe; obtain ⟨A1, c1, rfl, _⟩ := hSb.form; clear hSb;  have q0 := far_cell hF1 b0; have q1 := far_cell hF1 b1; have HF1 := Lib.hid hF1; clear hF1)
      | (go_at_call 55; refine (wrong_any (Z := (w.heap.size + 1) :: Z) _ q a).mono ?_; rintro e wp ⟨v, rfl, hI, hFp⟩; obtain ⟨bad, kind, at_, nn, s, A, m, c, A2, m2, c2, ins, rfl, hins⟩ := hI.form; have HFp := Lib.hid (MM.Far.trans (HF1.out) hFp (by simp)); have HBp := Lib.hid (HB.out.far HFp.out (by simp)); have HFq := Lib.hid (HF.out.trans HFp.out (by simp)); have HI := Lib.hid hI; clear hI; obtain ⟨v0, v1, v2, v3, v4, v5, v6, v7, v8, v9, v10, y0, y1, y2, y3, y4, y5, y6, y7, y8, y9, y10, hfz⟩ := HBp.out.cells))
    exact fin_pl rfl rfl rfl HBp.out HFq.out (by omega) HI.out
  | some p =>
    obtain ⟨bs, vs⟩ := p
    obtain ⟨hin, hvl, hbv⟩ := HPF.out bs vs rfl
    have HIN := Lib.hid hin
    have HVL := Lib.hid hvl
    have HBV := Lib.hid hbv
    obtain ⟨R2, hR2⟩ : ∃ R2, starG ns bs [] = R2 := ⟨_, rfl⟩
    obtain ⟨pl, hpl⟩ : ∃ pl, starN a r vs R2 = pl := ⟨_, rfl⟩
    show Calls _ _ _ _ (PlanQ w Z q (starN a r vs (starG ns bs [])))
    rw [hR2, hpl]
    have HR2 := Lib.hid hR2
    have HPL := Lib.hid hpl
    obtain ⟨m1, hm1⟩ : ∃ m1, (ints vs).length = m1 := ⟨_, rfl⟩
    obtain ⟨mb1, hmb1⟩ : ∃ mb1, (ints bs).length = mb1 := ⟨_, rfl⟩
    have HM1 := Lib.hid hm1
    have HMB := Lib.hid hmb1
    have hmbx : mb1 ≤ 1099511627776 := by rw [← hmb1, ints_len, hbv]; exact hvl
    clear hin hvl HPF hbv hR2 hpl hm1 hmb1
    subst hW; subst hk
    unfold zP num at *
    unfold ptr at *
    go_enter Tryz.func51, Tryz.ntmps51
    go_wp2_with (first
      | (go_at_call 88; (with_reducible refine HC1.out.mono ?_); rintro e w1 ⟨hRe, hF1⟩; obtain ⟨bv, vv, rfl, hSb, hSv⟩ : ∃ bv vv, e = .returned (.tuple #[bv, vv, .bool true]) ∧ Sl w1 ((w.heap.size + 1) :: Z) bv (ints bs) ∧ Sl w1 ((w.heap.size + 1) :: Z) vv (ints vs) := hRe; obtain ⟨A1, c1, rfl, _⟩ := hSb.form; obtain ⟨A2, c2, rfl, _⟩ := hSv.form; rw [HM1.out] at hSv ⊢; rw [HMB.out] at hSb ⊢; have HSV := Lib.hid hSv; have HSB := Lib.hid hSb; clear hSb hSv;  have q0 := far_cell hF1 b0; have q1 := far_cell hF1 b1; have HF1 := Lib.hid hF1; clear hF1))
    have HI0 : Hid (StarI w1 ns bs R2 (.slice none 0 0) [] 0 w1) := Lib.hid ⟨MM.Far.refl [] w1, MO.none_ _ _ _ _, HR2.out, rfl⟩
    have Q0 := Lib.hid q0
    have Q1 := Lib.hid q1
    clear q0 q1 b0 b1 r0
    go_loopw [8, 30] (fun s8 s30 wr => ∃ (k : Nat) (acc : List ByteArray) (B : Option Addr) (bc : Nat), k ≤ mb1 ∧ s30 = .int .i64 (k : Int) ∧ s8 = .slice B acc.length bc ∧ Hid (StarI w1 ns bs R2 (.slice B acc.length bc) acc k wr)) (fun s8 s30 _ => mb1 - (intOf s30).toNat)
    case atStart => exact ⟨0, [], none, 0, by omega, rfl, rfl, HI0⟩
    case round =>
      obtain ⟨k, acc, B, bc, hk, rfl, rfl, hH⟩ := hrel
      obtain ⟨hF, hO, hG, hal⟩ := hH.out
      have HFr := Lib.hid hF
      have HO := Lib.hid hO
      have HAL := Lib.hid hal
      have HFw := Lib.hid (HF1.out.trans hF (by simp))
      clear hF hO hal hH HI0
      by_cases hlt : k < mb1
      · have hk2 : k < bs.length := by rw [← ints_len, HMB.out]; exact hlt
        obtain ⟨A', c', e, hc1, hc2, hc3⟩ := HSB.out.far HFr.out (by simp)
        injection e with e1 e2 e3
        subst e1 e3
        obtain ⟨gb, ob, rfl, hz, hg, cc⟩ := hc3 k (.int .i64 ((bs[k] : Nat) : Int)) (by unfold ints; rw [List.getElem?_map, List.getElem?_eq_getElem hk2]; rfl)
        have hix : bs[k] < n := by rw [← HNN.out]; exact HIN.out _ (List.getElem_mem hk2)
        rw [List.drop_eq_getElem_cons hk2] at hG
        generalize bs[k] = i at *
        unfold starG at hG
        have HC := Lib.hid (HNM.out wr HFw.out i hix)
        have p0 := far_cell HFr.out Q0.out
        clear hk2 e2 hc1 hc2 hc3 hz hg
        (try unfold num at HC)
        (try unfold ptr at HC)
        generalize nameOf ns i = nm at *
        cases nm with
        | none =>
          have HE : Hid (pl = .bad a) := Lib.hid (by rw [← HPL.out, ← show none = R2 from hG]; rfl)
          clear hG
          simp only at HC
          go_wp2_with (first
            | (go_at_call 83; (with_reducible refine HC.out.mono ?_); rintro e w2 ⟨rfl, hF2⟩; have p0 := far_cell hF2 p0; have HF2 := Lib.hid (HFw.out.trans hF2 (by simp)); clear hF2)
            | (go_at_call 55; refine (wrong_any (Z := (w.heap.size + 1) :: Z) _ q a).mono ?_; rintro e wp ⟨v, rfl, hI, hFp⟩; obtain ⟨bad, kind, at_, nn, s, A, m, c, A2, m2, c2, ins, rfl, hins⟩ := hI.form; have HFp := Lib.hid (MM.Far.trans (HF2.out) hFp (by simp)); have HBp := Lib.hid (HB.out.far HFp.out (by simp)); have HFq := Lib.hid (HF.out.trans HFp.out (by simp)); have HI := Lib.hid hI; clear hI; obtain ⟨v0, v1, v2, v3, v4, v5, v6, v7, v8, v9, v10, y0, y1, y2, y3, y4, y5, y6, y7, y8, y9, y10, hfz⟩ := HBp.out.cells))
          rw [HE.out]
          exact fin_pl rfl rfl rfl HBp.out HFq.out (by omega) HI.out
        | some s =>
          simp only at HC hG
          have HG := Lib.hid hG
          have HB9 : Hid (w1.heap.size ≤ wr.heap.size) := Lib.hid HFr.out.size
          have hall : acc.length ≤ 1099511627776 := by have := HAL.out; omega
          clear hG
          go_wp2_with (first
            | (go_at_call 83; (with_reducible refine HC.out.mono ?_); rintro e w2 ⟨rfl, hF2⟩; have HF2 := Lib.hid hF2; clear hF2)
            | (at_builtin; refine str_push (base := w1.heap.size) (l := acc) (s := s) (MM.own_far HO.out HF2.out (by simp)) (Nat.le_trans HB9.out HF2.out.size) hall rfl (.tmp 45) (.tmp 47) rfl rfl rfl ?_; intro B3 c3 w3 hO3 hF3; have HO3 := Lib.hid hO3; have HF3 := Lib.hid hF3; clear hO3 hF3))
          have HF4 : Hid (MM.Far [] w1 w3) := Lib.hid ((HFr.out.trans HF2.out (by simp)).trans HF3.out (fun b hb hl => by
            have h1 := (MM.own_lt HO.out b (by simpa using hb)).2
            omega))
          go_roundw
          case rel => exact ⟨k + 1, acc ++ [s], B3, c3, by omega, by go_num, by simp, Lib.hid ⟨HF4.out, by simpa using HO3.out, HG.out, by simp [HAL.out]⟩⟩
          case measure => simp [intOf]; omega
      · obtain rfl : k = mb1 := by omega
        rw [List.drop_of_length_le (by rw [← ints_len, HMB.out]; exact Nat.le_refl _)] at hG
        simp only [starG] at hG
        have HE : Hid (nestedP a acc vs (body a r) = pl) := Lib.hid (by rw [← HPL.out, ← hG]; rfl)
        have HSN : Hid (Sl wr ((w.heap.size + 1) :: Z) (.slice B acc.length bc) (strs acc)) := Lib.hid (Sl.own HO.out (fun b hb hm => by
          have h1 := (MM.own_lt HO.out b hb).2
          have h2 := z_far HZ.out HF1.out b hm
          omega))
        have HSV2 := Lib.hid (HSV.out.far HFr.out (by simp))
        have HLN : Hid (acc.length = vs.length) := Lib.hid (by rw [HAL.out, ← HMB.out, ints_len]; exact HBV.out)
        have p0 := far_cell HFr.out Q0.out
        have p1 := far_cell HFr.out Q1.out
        clear hG
        go_wp2
        go_region_held3 (fun w' => w'.cell? ⟨w.heap.size, 0, none⟩ = some (.int .i64 a) ∧ w'.cell? ⟨w.heap.size, 1, none⟩ = some (.slice (some ⟨g, o, none⟩) (m' + 1) rc)) (first | (with_reducible assumption) | go_keep) (first
          | (go_at_call 90; (with_reducible refine (nested_any _ q (z_far HZ.out HF5.out) a (HSN.out.far HFc.out (by simp)) (HSV2.out.far HFc.out (by simp)) HI5.out HLN.out).mono ?_); rintro e w3 ⟨v3, rfl, hI3, hF3⟩; obtain ⟨bad, kind, at2, nn2, s2, A, m2, c, A2, m3, c2, ins, rfl, hins⟩ := hI3.form; have hk3 := keep2 hF3 (by assumption); have HF3 := Lib.hid (MM.Far.trans HF5.out hF3 (by simp)); have HI3 := Lib.hid hI3; have HB3 := Lib.hid (HB.out.far HF3.out (by simp)); clear hF3 hI3; obtain ⟨v0, v1, v2, v3, v4, v5, v6, v7, v8, v9, v10, y0, y1, y2, y3, y4, y5, y6, y7, y8, y9, y10, hfz⟩ := HB3.out.cells)
          | (go_at_call 48; (with_reducible refine (body_any _ q (z_drew (z_far HZ.out HFw.out)) a (HS.out.far (MM.Far.drew HFw.out) (by simp))).mono ?_); rintro e w5 ⟨v5, rfl, hI5, hF5⟩; obtain ⟨f5, l5, rfl⟩ := hI5.func; have hk5 := keep2 hF5 (by assumption); have HFc := Lib.hid (MM.Far.trans ((MM.Far.refl [] wr).drew) hF5 (by simp)); have HF5 := Lib.hid (MM.Far.trans (MM.Far.drew HFw.out) hF5 (by simp)); have HI5 := Lib.hid hI5; clear hF5 hI5))
        go_wp2
        rw [← HE.out]
        exact fin_pl rfl rfl rfl HB3.out (HF.out.trans HF3.out (by simp)) (by omega) HI3.out
end
end EW
end Go.Proofs.YtaghlpolljaedaaGreat
