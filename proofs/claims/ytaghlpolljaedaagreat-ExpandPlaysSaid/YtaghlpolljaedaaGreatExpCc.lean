/-
  Several texts in one: ExpC18, ExpC19, ExpC20, ExpC21. Each one's own head tells its conditions.
-/
import Derived.Test.YtaghlpolljaedaaGreatExpCb
import Derived.Test.YtaghlpolljaedaaGreatExpBase
import Derived.Test.YtaghlpolljaedaaGreatExpPure
/-
  Contract of the code's definition of a function. Conditions: sizes; the row of data may be.
-/
namespace Go.Proofs.YtaghlpolljaedaaGreat
open Go.RowKit
namespace EW
open LX SX RW6 EX
open RX (Nd)
def defR (a : Int) (r : List Nat) : Option ByteArray → Option (List ByteArray) → Pl
  | some s, some names => definition a s (.fn a names (body a r))
  | _, _ => .bad a
theorem defineF_eq (ns : List Nd) (a : Int) (x p : Nat) (r ps : List Nat) : defineF ns a (x :: r) (p :: ps) = defR a r (nameOf ns p) (namesOf ns ps) := by
  unfold defineF defR
  simp only [List.getD_cons_zero, List.drop_succ_cons, List.drop_zero]
  cases nameOf ns p <;> cases namesOf ns ps <;> rfl
section
variable {w0 w : World} {Z : List Nat} {q mb : Nat} {DA : Option Addr} {n c : Nat} {ns : List Nd}
set_option maxRecDepth 20000 in
set_option maxHeartbeats 4000000 in
theorem defF_any (h : Env w0 w Z q (.slice DA n c) mb) (hN : NdR w0 DA ns) (hn : ns.length = n) (hs : ∀ i, (ndAt ns i).s.size ≤ 140737488355328) (a : Int) {rv hv : Value} {x p : Nat} {r ps : List Nat} {top : Bool} (hr : Sl w Z rv (ints (x :: r))) (hh : Sl w Z hv (ints (p :: ps))) (hin : ∀ i ∈ p :: ps, i < ns.length) :
    Calls Tryz.prog 86 #[ptr q, .agg #[num a, rv, .bool top], hv] w (PlanQ w Z q (defineF ns a (x :: r) (p :: ps))) := by
  have hz := h.z
  rw [defineF_eq]
  have hh2 := hh
  rw [int_head] at hh2
  obtain ⟨gh, oh, ch, rfl, hch, _, _, hgh, hgzh, hSh⟩ := hh2.cons
  obtain ⟨mh, hmh⟩ : ∃ mh, (ints ps).length = mh := ⟨_, rfl⟩
  rw [hmh] at hSh ⊢
  obtain ⟨Ah, hAh⟩ : ∃ A', (if ch = 1 then some (⟨gh, oh, none⟩ : Addr) else some ⟨gh, oh + 1, none⟩) = A' := ⟨_, rfl⟩
  have hslh := fun X => slice_ints gh oh mh ch X
  rw [hAh] at hSh hslh
  have hr2 := hr
  rw [int_head] at hr2
  obtain ⟨g, o, rc, rfl, hc, _, _, hg, hgz, hS0⟩ := hr2.cons
  obtain ⟨m', hm'⟩ : ∃ m', (ints r).length = m' := ⟨_, rfl⟩
  rw [hm'] at hr hS0 ⊢
  obtain ⟨A', hA'⟩ : ∃ A', (if rc = 1 then some (⟨g, o, none⟩ : Addr) else some ⟨g, o + 1, none⟩) = A' := ⟨_, rfl⟩
  have hsl := fun X => slice_ints g o m' rc X
  rw [hA'] at hS0 hsl
  obtain ⟨W, hW⟩ : ∃ W, ((w.alloc (.cells #[num a, .slice (some ⟨g, o, none⟩) (m' + 1) rc, .bool top] 95)).alloc zP) = W := ⟨_, rfl⟩
  obtain ⟨k, hk⟩ : ∃ k, w.heap.size = k := ⟨_, rfl⟩
  have F0 : MM.Far [] w W := by rw [← hW]; exact ((MM.Far.refl [] w).alloc _).alloc _
  have BL : MM.Row W k 95 [num a, .slice (some ⟨g, o, none⟩) (m' + 1) rc, .bool top] := by rw [← hW]; exact (row_new 95 [num a, .slice (some ⟨g, o, none⟩) (m' + 1) rc, .bool top] hk).alloc _
  have HB : Hid (PlBox W (k + 1)) := Lib.hid (by rw [← hW]; exact PlBox.new (by simp only [sz_alloc, hk]))
  have HZ : Hid (∀ x ∈ (k + 1) :: Z, x < W.heap.size) := Lib.hid (by rw [← hW]; exact z_cons (by simp only [sz_alloc, hk]) (z_alloc hz))
  have HF := Lib.hid F0
  have HK := Lib.hid hk
  have MZ : ∀ x ∈ (k + 1) :: Z, x ∈ Z ∨ w.heap.size ≤ x := fun x hx => (List.mem_cons.1 hx).elim (fun e => .inr (by omega)) .inl
  have b0 := BL.at (i := 0) rfl
  have b1 := BL.at (i := 1) rfl
  have b2 := BL.at (i := 2) rfl
  have r0 := far_cell F0 hc
  have hne1 : ¬ (k + 1) = g := by omega
  have e0 : ¬ (k + 1) = k := by omega
  have HS := Lib.hid ((hS0.more MZ).far F0 (by simp))
  have hE := h.step F0 MZ HZ.out
  have ph := far_cell F0 hch
  have HBL := Lib.hid BL
  have HKZ : Hid (k ∉ (k + 1) :: Z) := Lib.hid (fun hm => by
    rcases List.mem_cons.1 hm with h1 | h1
    · omega
    · have := hz k h1; omega)
  have HC1 := Lib.hid (name_any hE hN hn hs (i := p) (by rw [← hn]; exact hin p (List.mem_cons_self ..)))
  have HNM := Lib.hid (fun (w' : World) (f : MM.Far [] W w') => names_any (hE.to f) hN hn hs (((hSh.more MZ).far F0 (by simp)).far f (by simp)) (by rw [← hmh, ints_len]) (fun i hi => hin i (List.mem_cons_of_mem _ hi)))
  obtain ⟨R1, hR1⟩ : ∃ R1, nameOf ns p = R1 := ⟨_, rfl⟩
  obtain ⟨R2, hR2⟩ : ∃ R2, namesOf ns ps = R2 := ⟨_, rfl⟩
  rw [hR1] at HC1 ⊢
  rw [hR2] at HNM ⊢
  clear hr hr2 hh hh2 hz MZ F0 BL hc hg hgz hS0 hA' hm' hE h hN hn hs hin hR1 hR2 hch hgh hgzh hSh hmh hAh b2
  subst hW; subst hk
  unfold zP num at *
  unfold ptr at *
  rcases R1 with _ | s <;> rcases R2 with _ | names
  ·
    show Calls _ _ _ _ (PlanQ w Z q (.bad a))
    simp only at HC1
    go_enter Tryz.func86, Tryz.ntmps86
    go_wp2_with (first
      | (go_at_call 83; (with_reducible refine HC1.out.mono ?_); rintro e w1 ⟨rfl, hF1⟩; have q0 := far_cell hF1 b0; have q1 := far_cell hF1 b1; have HC2 := Lib.hid (HNM.out w1 hF1); have HF1 := Lib.hid hF1; clear hF1)
      | (go_at_call 81; (with_reducible refine HC2.out.mono ?_); rintro e w2 ⟨hRe2, hF2⟩; obtain rfl : e = .returned (.tuple #[.slice none 0 0, .bool false]) := hRe2;  have HFx := Lib.hid (HF1.out.trans hF2 (by simp)); have q0 := far_cell ((MM.Far.refl [] w2).alloc (.cells #[.slice none 0 0] 37)) (far_cell hF2 q0); have q1 := far_cell ((MM.Far.refl [] w2).alloc (.cells #[.slice none 0 0] 37)) (far_cell hF2 q1); have HF2 := Lib.hid (HFx.out.alloc (.cells #[.slice none 0 0] 37)); clear hF2)
      | (go_at_call 55; refine (wrong_any (Z := (w.heap.size + 1) :: Z) _ q a).mono ?_; rintro e wp ⟨v, rfl, hI, hFp⟩; obtain ⟨bad, kind, at_, nn, s, A, m, c, A2, m2, c2, ins, rfl, hins⟩ := hI.form; have HFp := Lib.hid (MM.Far.trans (HF2.out) hFp (by simp)); have HBp := Lib.hid (HB.out.far HFp.out (by simp)); have HFq := Lib.hid (HF.out.trans HFp.out (by simp)); have HI := Lib.hid hI; clear hI; obtain ⟨v0, v1, v2, v3, v4, v5, v6, v7, v8, v9, v10, y0, y1, y2, y3, y4, y5, y6, y7, y8, y9, y10, hfz⟩ := HBp.out.cells))
    exact fin_pl rfl rfl rfl HBp.out HFq.out (by omega) HI.out
  ·
    show Calls _ _ _ _ (PlanQ w Z q (.bad a))
    simp only at HC1
    go_enter Tryz.func86, Tryz.ntmps86
    go_wp2_with (first
      | (go_at_call 83; (with_reducible refine HC1.out.mono ?_); rintro e w1 ⟨rfl, hF1⟩; have q0 := far_cell hF1 b0; have q1 := far_cell hF1 b1; have HC2 := Lib.hid (HNM.out w1 hF1); have HF1 := Lib.hid hF1; clear hF1)
      | (go_at_call 81; (with_reducible refine HC2.out.mono ?_); rintro e w2 ⟨hRe2, hF2⟩; obtain ⟨vn, rfl, hSn⟩ : ∃ v, e = .returned (.tuple #[v, .bool true]) ∧ Sl w2 ((w.heap.size + 1) :: Z) v (strs names) := hRe2; obtain ⟨nB, nbc, rfl, _⟩ := hSn.form; have HSN := Lib.hid hSn; clear hSn;  have HFx := Lib.hid (HF1.out.trans hF2 (by simp)); have q0 := far_cell ((MM.Far.refl [] w2).alloc (.cells #[.slice nB (strs names).length nbc] 37)) (far_cell hF2 q0); have q1 := far_cell ((MM.Far.refl [] w2).alloc (.cells #[.slice nB (strs names).length nbc] 37)) (far_cell hF2 q1); have HF2 := Lib.hid (HFx.out.alloc (.cells #[.slice nB (strs names).length nbc] 37)); clear hF2)
      | (go_at_call 55; refine (wrong_any (Z := (w.heap.size + 1) :: Z) _ q a).mono ?_; rintro e wp ⟨v, rfl, hI, hFp⟩; obtain ⟨bad, kind, at_, nn, s, A, m, c, A2, m2, c2, ins, rfl, hins⟩ := hI.form; have HFp := Lib.hid (MM.Far.trans (HF2.out) hFp (by simp)); have HBp := Lib.hid (HB.out.far HFp.out (by simp)); have HFq := Lib.hid (HF.out.trans HFp.out (by simp)); have HI := Lib.hid hI; clear hI; obtain ⟨v0, v1, v2, v3, v4, v5, v6, v7, v8, v9, v10, y0, y1, y2, y3, y4, y5, y6, y7, y8, y9, y10, hfz⟩ := HBp.out.cells))
    exact fin_pl rfl rfl rfl HBp.out HFq.out (by omega) HI.out
  ·
    show Calls _ _ _ _ (PlanQ w Z q (.bad a))
    simp only at HC1
    go_enter Tryz.func86, Tryz.ntmps86
    go_wp2_with (first
      | (go_at_call 83; (with_reducible refine HC1.out.mono ?_); rintro e w1 ⟨rfl, hF1⟩; have q0 := far_cell hF1 b0; have q1 := far_cell hF1 b1; have HC2 := Lib.hid (HNM.out w1 hF1); have HF1 := Lib.hid hF1; clear hF1)
      | (go_at_call 81; (with_reducible refine HC2.out.mono ?_); rintro e w2 ⟨hRe2, hF2⟩; obtain rfl : e = .returned (.tuple #[.slice none 0 0, .bool false]) := hRe2;  have HFx := Lib.hid (HF1.out.trans hF2 (by simp)); have q0 := far_cell ((MM.Far.refl [] w2).alloc (.cells #[.slice none 0 0] 37)) (far_cell hF2 q0); have q1 := far_cell ((MM.Far.refl [] w2).alloc (.cells #[.slice none 0 0] 37)) (far_cell hF2 q1); have HF2 := Lib.hid (HFx.out.alloc (.cells #[.slice none 0 0] 37)); clear hF2)
      | (go_at_call 55; refine (wrong_any (Z := (w.heap.size + 1) :: Z) _ q a).mono ?_; rintro e wp ⟨v, rfl, hI, hFp⟩; obtain ⟨bad, kind, at_, nn, s, A, m, c, A2, m2, c2, ins, rfl, hins⟩ := hI.form; have HFp := Lib.hid (MM.Far.trans (HF2.out) hFp (by simp)); have HBp := Lib.hid (HB.out.far HFp.out (by simp)); have HFq := Lib.hid (HF.out.trans HFp.out (by simp)); have HI := Lib.hid hI; clear hI; obtain ⟨v0, v1, v2, v3, v4, v5, v6, v7, v8, v9, v10, y0, y1, y2, y3, y4, y5, y6, y7, y8, y9, y10, hfz⟩ := HBp.out.cells))
    exact fin_pl rfl rfl rfl HBp.out HFq.out (by omega) HI.out
  · show Calls _ _ _ _ (PlanQ w Z q (definition a s (.fn a names (body a r))))
    simp only at HC1
    go_enter Tryz.func86, Tryz.ntmps86
    go_wp2_with (first
      | (go_at_call 83; (with_reducible refine HC1.out.mono ?_); rintro e w1 ⟨rfl, hF1⟩; have q0 := far_cell hF1 b0; have q1 := far_cell hF1 b1; have HC2 := Lib.hid (HNM.out w1 hF1); have HF1 := Lib.hid hF1; clear hF1)
      | (go_at_call 81; (with_reducible refine HC2.out.mono ?_); rintro e w2 ⟨hRe2, hF2⟩; obtain ⟨vn, rfl, hSn⟩ : ∃ v, e = .returned (.tuple #[v, .bool true]) ∧ Sl w2 ((w.heap.size + 1) :: Z) v (strs names) := hRe2; obtain ⟨nB, nbc, rfl, _⟩ := hSn.form; have HSN := Lib.hid hSn; clear hSn;  have HFx := Lib.hid (HF1.out.trans hF2 (by simp)); have q0 := far_cell ((MM.Far.refl [] w2).alloc (.cells #[.slice nB (strs names).length nbc] 37)) (far_cell hF2 q0); have q1 := far_cell ((MM.Far.refl [] w2).alloc (.cells #[.slice nB (strs names).length nbc] 37)) (far_cell hF2 q1); have HF2 := Lib.hid (HFx.out.alloc (.cells #[.slice nB (strs names).length nbc] 37)); clear hF2))
    obtain ⟨w3, hw3⟩ : ∃ w3, w2.alloc (.cells #[.slice nB (strs names).length nbc] 37) = w3 := ⟨_, rfl⟩
    have NBX : Bx w3 ((w.heap.size + 1) :: Z) w2.heap.size 37 (.slice nB (strs names).length nbc) := by rw [← hw3]; exact bx_new _ _ rfl (z_far HZ.out HFx.out)
    have SN3 : Sl w3 ((w.heap.size + 1) :: Z) (.slice nB (strs names).length nbc) (strs names) := by rw [← hw3]; exact HSN.out.alloc _
    obtain ⟨nb, hnb⟩ : ∃ nb, w2.heap.size = nb := ⟨_, rfl⟩
    rw [hw3] at q0 q1 HF2 ⊢
    rw [hnb] at NBX ⊢
    have HNBX := Lib.hid NBX
    have HSN3 := Lib.hid SN3
    clear NBX SN3 hw3 hnb HSN
    have hsz := HF2.out.size
    have HZ3 : Hid (∀ b ∈ w3.heap.size :: (w.heap.size + 1) :: Z, b ∈ (w.heap.size + 1) :: Z ∨ _ ≤ b) := Lib.hid (fun b hb => (List.mem_cons.1 hb).elim (fun e => .inr (e ▸ hsz)) .inl)
    have HZ4 : Hid (w3.heap.size ∉ (w.heap.size + 1) :: Z) := Lib.hid (fun hm => Nat.lt_irrefl _ (Nat.lt_of_lt_of_le (HZ.out _ hm) hsz))
    have HZ5 : Hid (∀ b ∈ [w3.heap.size], b < _ → b ∈ ([] : List Nat)) := Lib.hid (fun b hb hl => absurd (Nat.lt_of_lt_of_le hl hsz) (by simp at hb; subst hb; exact Nat.lt_irrefl _))
    simp only [sz_alloc] at hsz
    have hs3 : ¬ w3.heap.size = w.heap.size := by omega
    have hs4 : ¬ w.heap.size = w3.heap.size := by omega
    clear hsz
    go_region_held3 (fun w' => w'.cell? ⟨w.heap.size, 0, none⟩ = some (.int .i64 a) ∧ w'.cell? ⟨w.heap.size, 1, none⟩ = some (.slice (some ⟨g, o, none⟩) (m' + 1) rc)) (first | (with_reducible assumption) | go_keep) (first
      | (go_at_call 48; (with_reducible refine (body_any w3.drew q (z_drew (z_far HZ.out HF2.out)) a (HS.out.far (MM.Far.drew HF2.out) (by simp))).mono ?_); rintro e w5 ⟨v5, rfl, hI5, hF5⟩; obtain ⟨f5, l5, rfl⟩ := hI5.func; have hk5 := keep2 hF5 (by assumption); have HFc := Lib.hid (MM.Far.trans ((MM.Far.refl [] w3).drew) hF5 (by simp)); have HF5 := Lib.hid (MM.Far.trans (MM.Far.drew HF2.out) hF5 (by simp)); have HI5 := Lib.hid hI5; clear hF5 hI5)
      | (go_at_call 48; (with_reducible refine (body_any (w3.alloc (.cells #[.nilFunc] 75)).drew q (z_drew (z_cons rfl (z_far HZ.out HF2.out))) a ((HS.out.more HZ3.out).far (MM.Far.drew (HF2.out.alloc _)) (by simp))).mono ?_); rintro e w5 ⟨v5, rfl, hI5, hF5⟩; obtain ⟨f5, l5, rfl⟩ := hI5.func; have hk5 := keep2 hF5 (by assumption); have hRb := (((MM.Row.new w3 75 [.nilFunc]).drew).far hF5 (by simp)); have y0 := hRb.at (i := 0) rfl; have yf := hRb.frozen 0; have HRb := Lib.hid hRb; have HFc := Lib.hid (MM.Far.trans ((MM.Far.refl [] w3).alloc (.cells #[.nilFunc] 75) |>.drew) hF5 (by simp)); have HF5 := Lib.hid (MM.Far.trans (MM.Far.drew (HF2.out.alloc (.cells #[.nilFunc] 75))) hF5 (by simp)); have HI5 := Lib.hid hI5; clear hF5 hI5 hRb))
    ·
      obtain ⟨wE, hwE⟩ : ∃ x, w5.alloc (.cells #[.func (.func f5) #[] l5] 75) = x := ⟨_, rfl⟩
      obtain ⟨bb, hbb⟩ : ∃ x, w5.heap.size = x := ⟨_, rfl⟩
      have FE := Lib.hid (HF5.out.alloc (.cells #[.func (.func f5) #[] l5] 75))
      have FE3 := Lib.hid (HFc.out.alloc (.cells #[.func (.func f5) #[] l5] 75))
      have BE := Lib.hid (bx_new 75 (.func (.func f5) #[] l5) rfl (z_far HZ.out HF5.out))
      have IE := Lib.hid (HI5.out.alloc (.cells #[.func (.func f5) #[] l5] 75))
      rw [hwE] at FE FE3 BE IE ⊢
      rw [hbb] at BE ⊢
      clear HF5 HFc HI5
      have q0E := far_cell FE.out b0
      have HIn : Hid (Is wE ((w.heap.size + 1) :: Z) q (.func (.func 106) #[] #[ptr w.heap.size, ptr nb, ptr bb]) (.fn a names (body a r))) := Lib.hid (.fnd (HBL.out.far FE.out (by simp)) HKZ.out (HNBX.out.far FE3.out (by simp)) (HSN3.out.far FE3.out (by simp)) BE.out IE.out)
      clear hwE hbb
      go_wp2_with (first
        | (go_at_call 87; refine (definition_any wE q (z_far HZ.out FE.out) a s HIn.out).mono ?_; rintro e wp ⟨v, rfl, hI, hFp⟩; obtain ⟨bad, kind, at_, nn, s, A, m, c, A2, m2, c2, ins, rfl, hins⟩ := hI.form; have HFp := Lib.hid (MM.Far.trans (FE.out) hFp (by simp)); have HBp := Lib.hid (HB.out.far HFp.out (by simp)); have HFq := Lib.hid (HF.out.trans HFp.out (by simp)); have HI := Lib.hid hI; clear hI; obtain ⟨v0, v1, v2, v3, v4, v5, v6, v7, v8, v9, v10, y0, y1, y2, y3, y4, y5, y6, y7, y8, y9, y10, hfz⟩ := HBp.out.cells))
      exact fin_pl rfl rfl rfl HBp.out HFq.out (by omega) HI.out
    all_goals
      obtain ⟨wE, hwE⟩ : ∃ x, w5.setCell ⟨w3.heap.size, 0, none⟩ (.func (.func f5) #[] l5) = x := ⟨_, rfl⟩
      obtain ⟨bb, hbb⟩ : ∃ x, w3.heap.size = x := ⟨_, rfl⟩
      have FE := Lib.hid (HF5.out.trans (cell_far w5 w3.heap.size 0 (.func (.func f5) #[] l5)) HZ5.out)
      have FE3 := Lib.hid (HFc.out.trans (cell_far w5 w3.heap.size 0 (.func (.func f5) #[] l5)) (by simp))
      have BE := Lib.hid (show Bx (w5.setCell ⟨w3.heap.size, 0, none⟩ (.func (.func f5) #[] l5)) ((w.heap.size + 1) :: Z) w3.heap.size 75 (.func (.func f5) #[] l5) from ⟨HRb.out.put 0 (.func (.func f5) #[] l5), HZ4.out⟩)
      have IE := Lib.hid ((HI5.out.far (cell_far w5 w3.heap.size 0 (.func (.func f5) #[] l5)) (fun b hb _ => by simp at hb; simp [hb])).more (Z' := (w.heap.size + 1) :: Z) (fun b hb => .inl (List.mem_cons_of_mem _ hb)))
      rw [hwE] at FE FE3 BE IE ⊢
      rw [hbb] at BE ⊢
      clear HF5 HFc HI5 y0 yf HRb
      have q0E := far_cell FE.out b0
      have HIn : Hid (Is wE ((w.heap.size + 1) :: Z) q (.func (.func 106) #[] #[ptr w.heap.size, ptr nb, ptr bb]) (.fn a names (body a r))) := Lib.hid (.fnd (HBL.out.far FE.out (by simp)) HKZ.out (HNBX.out.far FE3.out (by simp)) (HSN3.out.far FE3.out (by simp)) BE.out IE.out)
      clear hwE hbb
      go_wp2_with (first
        | (go_at_call 87; refine (definition_any wE q (z_far HZ.out FE.out) a s HIn.out).mono ?_; rintro e wp ⟨v, rfl, hI, hFp⟩; obtain ⟨bad, kind, at_, nn, s, A, m, c, A2, m2, c2, ins, rfl, hins⟩ := hI.form; have HFp := Lib.hid (MM.Far.trans (FE.out) hFp (by simp)); have HBp := Lib.hid (HB.out.far HFp.out (by simp)); have HFq := Lib.hid (HF.out.trans HFp.out (by simp)); have HI := Lib.hid hI; clear hI; obtain ⟨v0, v1, v2, v3, v4, v5, v6, v7, v8, v9, v10, y0, y1, y2, y3, y4, y5, y6, y7, y8, y9, y10, hfz⟩ := HBp.out.cells))
      exact fin_pl rfl rfl rfl HBp.out HFq.out (by omega) HI.out
end
end EW
end Go.Proofs.YtaghlpolljaedaaGreat
/-
  Contract of the code's shape define. Conditions: sizes; the row of data may be.
-/
namespace Go.Proofs.YtaghlpolljaedaaGreat
open Go.RowKit
namespace EW
open LX SX RW6 EX
open RX (Nd)
section
variable {w0 w : World} {Z : List Nat} {q mb : Nat} {DA : Option Addr} {n c : Nat} {ns : List Nd}
set_option maxRecDepth 20000 in
set_option maxHeartbeats 4000000 in
theorem define_low (hz : ∀ b ∈ Z, b < w.heap.size) (a : Int) {rv : Value} {vs : List Value} (hr : Sl w Z rv vs) :
    Calls Tryz.prog 49 #[ptr q, .agg #[num a, rv, .bool false]] w (PlanQ w Z q (.bad a)) := by
  obtain ⟨RA, rc, rfl, _⟩ := hr.form
  obtain ⟨m, hm⟩ : ∃ m, vs.length = m := ⟨_, rfl⟩
  rw [hm] at hr ⊢
  obtain ⟨top, ht⟩ : ∃ t, false = t := ⟨_, rfl⟩
  rw [ht]
  obtain ⟨W, hW⟩ : ∃ W, ((w.alloc (.cells #[num a, .slice RA m rc, .bool top] 95)).alloc zP) = W := ⟨_, rfl⟩
  obtain ⟨k, hk⟩ : ∃ k, w.heap.size = k := ⟨_, rfl⟩
  have F0 : MM.Far [] w W := by rw [← hW]; exact ((MM.Far.refl [] w).alloc _).alloc _
  have BL : MM.Row W k 95 [num a, .slice RA m rc, .bool top] := by rw [← hW]; exact (row_new 95 [num a, .slice RA m rc, .bool top] hk).alloc _
  have HB : Hid (PlBox W (k + 1)) := Lib.hid (by rw [← hW]; exact PlBox.new (by simp only [sz_alloc, hk]))
  have HZ : Hid (∀ x ∈ (k + 1) :: Z, x < W.heap.size) := Lib.hid (by rw [← hW]; exact z_cons (by simp only [sz_alloc, hk]) (z_alloc hz))
  have HF := Lib.hid F0
  have HK := Lib.hid hk
  have MZ : ∀ x ∈ (k + 1) :: Z, x ∈ Z ∨ w.heap.size ≤ x := fun x hx => (List.mem_cons.1 hx).elim (fun e => .inr (by omega)) .inl
  have b0 := BL.at (i := 0) rfl
  have b1 := BL.at (i := 1) rfl
  have b2 := BL.at (i := 2) rfl
  have b3 : W.cell? ⟨k, 2, none⟩ = some (.bool false) := by rw [ht]; exact b2
  have HT := Lib.hid ht
  clear hr hz MZ F0 BL b2
  rw [← ht] at hW
  clear ht
  subst hW; subst hk
  unfold zP num at *
  unfold ptr at *
  rw [← HT.out]
  go_enter Tryz.func49, Tryz.ntmps49
  go_wp2_with (first
    | (go_at_call 55; refine (wrong_any (Z := (w.heap.size + 1) :: Z) _ q a).mono ?_; rintro e wp ⟨v, rfl, hI, hFp⟩; obtain ⟨bad, kind, at_, nn, s, A, m, c, A2, m2, c2, ins, rfl, hins⟩ := hI.form; have HFp := Lib.hid (MM.Far.trans (MM.Far.refl [] _) hFp (by simp)); have HBp := Lib.hid (HB.out.far HFp.out (by simp)); have HFq := Lib.hid (HF.out.trans HFp.out (by simp)); have HI := Lib.hid hI; clear hI; obtain ⟨v0, v1, v2, v3, v4, v5, v6, v7, v8, v9, v10, y0, y1, y2, y3, y4, y5, y6, y7, y8, y9, y10, hfz⟩ := HBp.out.cells))
  exact fin_pl rfl rfl rfl HBp.out HFq.out (by omega) HI.out
set_option maxRecDepth 20000 in
set_option maxHeartbeats 4000000 in
theorem define_fun (h : Env w0 w Z q (.slice DA n c) mb) (hN : NdR w0 DA ns) (hn : ns.length = n) (hs : ∀ i, (ndAt ns i).s.size ≤ 140737488355328) (hok : Ok ns) (a : Int) {rv : Value} {x : Nat} {r : List Nat} (hr : Sl w Z rv (ints (x :: r))) (hx : x < n) {p : Nat} {ps : List Nat} (hl : (ndAt ns x).l = p :: ps) :
    Calls Tryz.prog 49 #[ptr q, .agg #[num a, rv, .bool true]] w (PlanQ w Z q (defineF ns a (x :: r) (p :: ps))) := by
  have hz := h.z
  have hr2 := hr
  rw [int_head] at hr2
  obtain ⟨g, o, rc, rfl, hc, _, _, hg, hgz, hS0⟩ := hr2.cons
  obtain ⟨m', hm'⟩ : ∃ m', (ints r).length = m' := ⟨_, rfl⟩
  rw [hm'] at hr hS0 ⊢
  obtain ⟨W, hW⟩ : ∃ W, ((w.alloc (.cells #[num a, .slice (some ⟨g, o, none⟩) (m' + 1) rc, .bool true] 95)).alloc zP) = W := ⟨_, rfl⟩
  obtain ⟨k, hk⟩ : ∃ k, w.heap.size = k := ⟨_, rfl⟩
  have F0 : MM.Far [] w W := by rw [← hW]; exact ((MM.Far.refl [] w).alloc _).alloc _
  have BL : MM.Row W k 95 [num a, .slice (some ⟨g, o, none⟩) (m' + 1) rc, .bool true] := by rw [← hW]; exact (row_new 95 [num a, .slice (some ⟨g, o, none⟩) (m' + 1) rc, .bool true] hk).alloc _
  have HB : Hid (PlBox W (k + 1)) := Lib.hid (by rw [← hW]; exact PlBox.new (by simp only [sz_alloc, hk]))
  have HZ : Hid (∀ x ∈ (k + 1) :: Z, x < W.heap.size) := Lib.hid (by rw [← hW]; exact z_cons (by simp only [sz_alloc, hk]) (z_alloc hz))
  have HF := Lib.hid F0
  have HK := Lib.hid hk
  have MZ : ∀ x ∈ (k + 1) :: Z, x ∈ Z ∨ w.heap.size ≤ x := fun x hx => (List.mem_cons.1 hx).elim (fun e => .inr (by omega)) .inl
  have b0 := BL.at (i := 0) rfl
  have b1 := BL.at (i := 1) rfl
  have b2 := BL.at (i := 2) rfl
  have r0 := far_cell F0 hc
  have hne1 : ¬ (k + 1) = g := by omega
  have e0 : ¬ (k + 1) = k := by omega
  have hE := h.step F0 MZ HZ.out
  have HR := Lib.hid ((hr.more MZ).far F0 (by simp))
  obtain ⟨db, d1, LA, lc, rfl, _, z0, z1, z2, z3, z4, hS2⟩ := hE.dat hN (i := x) (by omega)
  have x0 := hE.c0
  have hx0 : (0 : Int) ≤ (x : Int) := by omega
  have hx1 : (x : Int) < (n : Int) := by omega
  rw [hl] at z4 hS2
  obtain ⟨m1, hm1⟩ : ∃ m1, (p :: ps).length = m1 + 1 := ⟨_, rfl⟩
  rw [hm1] at z4 hS2
  have HDF : Hid (∀ W' : World, MM.Far [] W W' → Calls Tryz.prog 86 #[ptr q, .agg #[num a, .slice (some ⟨g, o, none⟩) (m' + 1) rc, .bool true], .slice LA (m1 + 1) lc] W' (PlanQ W' ((k + 1) :: Z) q (defineF ns a (x :: r) (p :: ps)))) :=
    Lib.hid (fun W' f => defF_any (hE.to f) hN hn hs a (HR.out.far f (by simp)) (hS2.far f (by simp)) (fun i hi => (kid hok (i := x) (by rw [hl]; exact hi)).2))
  have hp1 : (0 : Int) < ((m1 : Nat) : Int) + 1 := by omega
  clear hr hr2 hz MZ F0 BL hc hg hgz hS0 hm' hE h hN hn hs hok hm1 hS2 z0 z1 z2 z3 HR hl
  subst hW; subst hk
  unfold zP num at *
  unfold ptr at *
  go_enter Tryz.func49, Tryz.ntmps49
  go_wp2
  generalize (w.alloc (.cells #[.int .i64 a, .slice (some ⟨g, o, none⟩) (m' + 1) rc, .bool true] 95)).alloc (.cells #[.bool false, .int .u8 0, .int .i64 0, .int .i64 0, .int .i64 0, .string ⟨#[]⟩, .slice none 0 0, .int .u64 0, .slice none 0 0, .slice none 0 0, .nilFunc] 78) = W at *
  go_region_held3 (fun w' => w'.cell? ⟨w.heap.size, 0, none⟩ = some (.int .i64 a) ∧ w'.cell? ⟨w.heap.size, 1, none⟩ = some (.slice (some ⟨g, o, none⟩) (m' + 1) rc) ∧ w'.cell? ⟨w.heap.size, 2, none⟩ = some (.bool true) ∧ w'.cell? ⟨q, 0, none⟩ = some (.slice (some ⟨db, d1, none⟩) n c) ∧ w'.cell? ⟨g, o, none⟩ = some (.int .i64 x) ∧ w'.cell? ⟨db, d1 + x * 5 + 4, none⟩ = some (.slice LA (m1 + 1) lc)) (go_keep) (fail)
  have FD : MM.Far [] W W.drew := (MM.Far.refl [] W).drew
  go_wp2_with (first
    | (go_at_call 86; refine (HDF.out _ ((MM.Far.refl [] W).drew)).mono ?_; rintro e wp ⟨v, rfl, hI, hFp⟩; obtain ⟨bad, kind, at_, nn, s, A, m, c, A2, m2, c2, ins, rfl, hins⟩ := hI.form; have HFp := Lib.hid (MM.Far.trans (((MM.Far.refl [] W).drew)) hFp (by simp)); have HBp := Lib.hid (HB.out.far HFp.out (by simp)); have HFq := Lib.hid (HF.out.trans HFp.out (by simp)); have HI := Lib.hid hI; clear hI; obtain ⟨v0, v1, v2, v3, v4, v5, v6, v7, v8, v9, v10, y0, y1, y2, y3, y4, y5, y6, y7, y8, y9, y10, hfz⟩ := HBp.out.cells))
  exact fin_pl rfl rfl rfl HBp.out HFq.out (by omega) HI.out
set_option maxRecDepth 20000 in
set_option maxHeartbeats 4000000 in
theorem define_none (h : Env w0 w Z q (.slice DA n c) mb) (hN : NdR w0 DA ns) (hn : ns.length = n) (hs : ∀ i, (ndAt ns i).s.size ≤ 140737488355328) (a : Int) {rv : Value} {x : Nat} {r : List Nat} (hr : Sl w Z rv (ints (x :: r))) (hx : x < n) (hl : (ndAt ns x).l = []) (hnm : nameOf ns x = none) :
    Calls Tryz.prog 49 #[ptr q, .agg #[num a, rv, .bool true]] w (PlanQ w Z q (.bad a)) := by
  have hz := h.z
  have hr2 := hr
  rw [int_head] at hr2
  obtain ⟨g, o, rc, rfl, hc, _, _, hg, hgz, hS0⟩ := hr2.cons
  obtain ⟨m', hm'⟩ : ∃ m', (ints r).length = m' := ⟨_, rfl⟩
  rw [hm'] at hr hS0 ⊢
  obtain ⟨W, hW⟩ : ∃ W, ((w.alloc (.cells #[num a, .slice (some ⟨g, o, none⟩) (m' + 1) rc, .bool true] 95)).alloc zP) = W := ⟨_, rfl⟩
  obtain ⟨k, hk⟩ : ∃ k, w.heap.size = k := ⟨_, rfl⟩
  have F0 : MM.Far [] w W := by rw [← hW]; exact ((MM.Far.refl [] w).alloc _).alloc _
  have BL : MM.Row W k 95 [num a, .slice (some ⟨g, o, none⟩) (m' + 1) rc, .bool true] := by rw [← hW]; exact (row_new 95 [num a, .slice (some ⟨g, o, none⟩) (m' + 1) rc, .bool true] hk).alloc _
  have HB : Hid (PlBox W (k + 1)) := Lib.hid (by rw [← hW]; exact PlBox.new (by simp only [sz_alloc, hk]))
  have HZ : Hid (∀ x ∈ (k + 1) :: Z, x < W.heap.size) := Lib.hid (by rw [← hW]; exact z_cons (by simp only [sz_alloc, hk]) (z_alloc hz))
  have HF := Lib.hid F0
  have HK := Lib.hid hk
  have MZ : ∀ x ∈ (k + 1) :: Z, x ∈ Z ∨ w.heap.size ≤ x := fun x hx => (List.mem_cons.1 hx).elim (fun e => .inr (by omega)) .inl
  have b0 := BL.at (i := 0) rfl
  have b1 := BL.at (i := 1) rfl
  have b2 := BL.at (i := 2) rfl
  have r0 := far_cell F0 hc
  have hne1 : ¬ (k + 1) = g := by omega
  have e0 : ¬ (k + 1) = k := by omega
  have hE := h.step F0 MZ HZ.out
  have HR := Lib.hid ((hr.more MZ).far F0 (by simp))
  obtain ⟨db, d1, LA, lc, rfl, _, z0, z1, z2, z3, z4, hS2⟩ := hE.dat hN (i := x) (by omega)
  have x0 := hE.c0
  have hx0 : (0 : Int) ≤ (x : Int) := by omega
  have hx1 : (x : Int) < (n : Int) := by omega
  rw [hl] at z4 hS2
  have HC1 := Lib.hid (fun (W' : World) (f : MM.Far [] W W') => name_any (hE.to f) hN hn hs hx)
  obtain ⟨R, hR⟩ : ∃ R, nameOf ns x = R := ⟨_, rfl⟩
  rw [hR] at HC1
  obtain rfl : R = none := hR.symm.trans hnm
  simp only at HC1
  clear hr hr2 hz MZ F0 BL hc hg hgz hS0 hm' hE h hN hn hs hS2 z0 z1 z2 z3 HR hl hR hnm
  subst hW; subst hk
  unfold zP num at *
  unfold ptr at *
  go_enter Tryz.func49, Tryz.ntmps49
  go_wp2
  generalize (w.alloc (.cells #[.int .i64 a, .slice (some ⟨g, o, none⟩) (m' + 1) rc, .bool true] 95)).alloc (.cells #[.bool false, .int .u8 0, .int .i64 0, .int .i64 0, .int .i64 0, .string ⟨#[]⟩, .slice none 0 0, .int .u64 0, .slice none 0 0, .slice none 0 0, .nilFunc] 78) = W at *
  go_region_held3 (fun w' => w'.cell? ⟨w.heap.size, 0, none⟩ = some (.int .i64 a) ∧ w'.cell? ⟨w.heap.size, 1, none⟩ = some (.slice (some ⟨g, o, none⟩) (m' + 1) rc) ∧ w'.cell? ⟨w.heap.size, 2, none⟩ = some (.bool true) ∧ w'.cell? ⟨q, 0, none⟩ = some (.slice (some ⟨db, d1, none⟩) n c) ∧ w'.cell? ⟨g, o, none⟩ = some (.int .i64 x) ∧ w'.cell? ⟨db, d1 + x * 5 + 4, none⟩ = some (.slice LA 0 lc)) (go_keep) (fail)
  go_wp2_with (first
    | (go_at_call 83; (with_reducible refine (HC1.out _ ((MM.Far.refl [] W).drew)).mono ?_); rintro e w1 ⟨rfl, hF1⟩; have q0 := far_cell hF1 b0; have q1 := far_cell hF1 b1; have p0 := far_cell hF1 r0; have HF1 := Lib.hid (((MM.Far.refl [] W).drew).trans hF1 (by simp)); clear hF1)
    | (go_at_call 55; refine (wrong_any (Z := (w.heap.size + 1) :: Z) _ q a).mono ?_; rintro e wp ⟨v, rfl, hI, hFp⟩; obtain ⟨bad, kind, at_, nn, s, A, m, c, A2, m2, c2, ins, rfl, hins⟩ := hI.form; have HFp := Lib.hid (MM.Far.trans (HF1.out) hFp (by simp)); have HBp := Lib.hid (HB.out.far HFp.out (by simp)); have HFq := Lib.hid (HF.out.trans HFp.out (by simp)); have HI := Lib.hid hI; clear hI; obtain ⟨v0, v1, v2, v3, v4, v5, v6, v7, v8, v9, v10, y0, y1, y2, y3, y4, y5, y6, y7, y8, y9, y10, hfz⟩ := HBp.out.cells))
  exact fin_pl rfl rfl rfl HBp.out HFq.out (by omega) HI.out
set_option maxRecDepth 20000 in
set_option maxHeartbeats 4000000 in
theorem define_many (h : Env w0 w Z q (.slice DA n c) mb) (hN : NdR w0 DA ns) (hn : ns.length = n) (hs : ∀ i, (ndAt ns i).s.size ≤ 140737488355328) (a : Int) {rv : Value} {x : Nat} {r : List Nat} (hr : Sl w Z rv (ints (x :: r))) (hx : x < n) (hl : (ndAt ns x).l = []) {s : ByteArray} (hnm : nameOf ns x = some s) (h2 : 1 < r.length) :
    Calls Tryz.prog 49 #[ptr q, .agg #[num a, rv, .bool true]] w (PlanQ w Z q (.bad a)) := by
  have hz := h.z
  have hr2 := hr
  rw [int_head] at hr2
  obtain ⟨g, o, rc, rfl, hc, _, _, hg, hgz, hS0⟩ := hr2.cons
  obtain ⟨m', hm'⟩ : ∃ m', (ints r).length = m' := ⟨_, rfl⟩
  rw [hm'] at hr hS0 ⊢
  obtain ⟨W, hW⟩ : ∃ W, ((w.alloc (.cells #[num a, .slice (some ⟨g, o, none⟩) (m' + 1) rc, .bool true] 95)).alloc zP) = W := ⟨_, rfl⟩
  obtain ⟨k, hk⟩ : ∃ k, w.heap.size = k := ⟨_, rfl⟩
  have F0 : MM.Far [] w W := by rw [← hW]; exact ((MM.Far.refl [] w).alloc _).alloc _
  have BL : MM.Row W k 95 [num a, .slice (some ⟨g, o, none⟩) (m' + 1) rc, .bool true] := by rw [← hW]; exact (row_new 95 [num a, .slice (some ⟨g, o, none⟩) (m' + 1) rc, .bool true] hk).alloc _
  have HB : Hid (PlBox W (k + 1)) := Lib.hid (by rw [← hW]; exact PlBox.new (by simp only [sz_alloc, hk]))
  have HZ : Hid (∀ x ∈ (k + 1) :: Z, x < W.heap.size) := Lib.hid (by rw [← hW]; exact z_cons (by simp only [sz_alloc, hk]) (z_alloc hz))
  have HF := Lib.hid F0
  have HK := Lib.hid hk
  have MZ : ∀ x ∈ (k + 1) :: Z, x ∈ Z ∨ w.heap.size ≤ x := fun x hx => (List.mem_cons.1 hx).elim (fun e => .inr (by omega)) .inl
  have b0 := BL.at (i := 0) rfl
  have b1 := BL.at (i := 1) rfl
  have b2 := BL.at (i := 2) rfl
  have r0 := far_cell F0 hc
  have hne1 : ¬ (k + 1) = g := by omega
  have e0 : ¬ (k + 1) = k := by omega
  have hE := h.step F0 MZ HZ.out
  have HR := Lib.hid ((hr.more MZ).far F0 (by simp))
  obtain ⟨db, d1, LA, lc, rfl, _, z0, z1, z2, z3, z4, hS2⟩ := hE.dat hN (i := x) (by omega)
  have x0 := hE.c0
  have hx0 : (0 : Int) ≤ (x : Int) := by omega
  have hx1 : (x : Int) < (n : Int) := by omega
  rw [hl] at z4 hS2
  have HC1 := Lib.hid (fun (W' : World) (f : MM.Far [] W W') => name_any (hE.to f) hN hn hs hx)
  obtain ⟨R, hR⟩ : ∃ R, nameOf ns x = R := ⟨_, rfl⟩
  rw [hR] at HC1
  obtain rfl : R = some s := hR.symm.trans hnm
  simp only at HC1
  have h3 : (2 : Int) < ((m' : Nat) : Int) + 1 := by rw [← hm', ints_len]; omega
  clear hr hr2 hz MZ F0 BL hc hg hgz hS0 hm' hE h hN hn hs hS2 z0 z1 z2 z3 HR hl hR hnm h2
  subst hW; subst hk
  unfold zP num at *
  unfold ptr at *
  go_enter Tryz.func49, Tryz.ntmps49
  go_wp2
  generalize (w.alloc (.cells #[.int .i64 a, .slice (some ⟨g, o, none⟩) (m' + 1) rc, .bool true] 95)).alloc (.cells #[.bool false, .int .u8 0, .int .i64 0, .int .i64 0, .int .i64 0, .string ⟨#[]⟩, .slice none 0 0, .int .u64 0, .slice none 0 0, .slice none 0 0, .nilFunc] 78) = W at *
  go_region_held3 (fun w' => w'.cell? ⟨w.heap.size, 0, none⟩ = some (.int .i64 a) ∧ w'.cell? ⟨w.heap.size, 1, none⟩ = some (.slice (some ⟨g, o, none⟩) (m' + 1) rc) ∧ w'.cell? ⟨w.heap.size, 2, none⟩ = some (.bool true) ∧ w'.cell? ⟨q, 0, none⟩ = some (.slice (some ⟨db, d1, none⟩) n c) ∧ w'.cell? ⟨g, o, none⟩ = some (.int .i64 x) ∧ w'.cell? ⟨db, d1 + x * 5 + 4, none⟩ = some (.slice LA 0 lc)) (go_keep) (fail)
  go_wp2_with (first
    | (go_at_call 83; (with_reducible refine (HC1.out _ ((MM.Far.refl [] W).drew)).mono ?_); rintro e w1 ⟨rfl, hF1⟩; have q0 := far_cell hF1 b0; have q1 := far_cell hF1 b1; have p0 := far_cell hF1 r0; have HF1 := Lib.hid (((MM.Far.refl [] W).drew).trans hF1 (by simp)); clear hF1)
    | (go_at_call 55; refine (wrong_any (Z := (w.heap.size + 1) :: Z) _ q a).mono ?_; rintro e wp ⟨v, rfl, hI, hFp⟩; obtain ⟨bad, kind, at_, nn, s, A, m, c, A2, m2, c2, ins, rfl, hins⟩ := hI.form; have HFp := Lib.hid (MM.Far.trans (HF1.out) hFp (by simp)); have HBp := Lib.hid (HB.out.far HFp.out (by simp)); have HFq := Lib.hid (HF.out.trans HFp.out (by simp)); have HI := Lib.hid hI; clear hI; obtain ⟨v0, v1, v2, v3, v4, v5, v6, v7, v8, v9, v10, y0, y1, y2, y3, y4, y5, y6, y7, y8, y9, y10, hfz⟩ := HBp.out.cells))
  exact fin_pl rfl rfl rfl HBp.out HFq.out (by omega) HI.out
set_option maxRecDepth 20000 in
set_option maxHeartbeats 4000000 in
theorem define_one (h : Env w0 w Z q (.slice DA n c) mb) (hN : NdR w0 DA ns) (hn : ns.length = n) (hs : ∀ i, (ndAt ns i).s.size ≤ 140737488355328) (a : Int) {rv : Value} {x : Nat} {y : Nat} (hr : Sl w Z rv (ints [x, y])) (hx : x < n) (hl : (ndAt ns x).l = []) {s : ByteArray} (hnm : nameOf ns x = some s) :
    Calls Tryz.prog 49 #[ptr q, .agg #[num a, rv, .bool true]] w (PlanQ w Z q (definition a s (.dat y))) := by
  have hz := h.z
  obtain ⟨RA, rc, rfl, _⟩ := hr.form
  have hlen : (ints [x, y]).length = 2 := rfl
  rw [hlen] at hr ⊢
  obtain ⟨g, o, rfl⟩ := sl_some hr (k := 0) rfl
  have hgz := sl_out hr (k := 0) rfl
  obtain ⟨W, hW⟩ : ∃ W, ((w.alloc (.cells #[num a, .slice (some ⟨g, o, none⟩) 2 rc, .bool true] 95)).alloc zP) = W := ⟨_, rfl⟩
  obtain ⟨k, hk⟩ : ∃ k, w.heap.size = k := ⟨_, rfl⟩
  have F0 : MM.Far [] w W := by rw [← hW]; exact ((MM.Far.refl [] w).alloc _).alloc _
  have BL : MM.Row W k 95 [num a, .slice (some ⟨g, o, none⟩) 2 rc, .bool true] := by rw [← hW]; exact (row_new 95 [num a, .slice (some ⟨g, o, none⟩) 2 rc, .bool true] hk).alloc _
  have HB : Hid (PlBox W (k + 1)) := Lib.hid (by rw [← hW]; exact PlBox.new (by simp only [sz_alloc, hk]))
  have HZ : Hid (∀ x ∈ (k + 1) :: Z, x < W.heap.size) := Lib.hid (by rw [← hW]; exact z_cons (by simp only [sz_alloc, hk]) (z_alloc hz))
  have HF := Lib.hid F0
  have HK := Lib.hid hk
  have MZ : ∀ x ∈ (k + 1) :: Z, x ∈ Z ∨ w.heap.size ≤ x := fun x hx => (List.mem_cons.1 hx).elim (fun e => .inr (by omega)) .inl
  have b0 := BL.at (i := 0) rfl
  have b1 := BL.at (i := 1) rfl
  have b2 := BL.at (i := 2) rfl
  have r0 : W.cell? ⟨g, o, none⟩ = some (.int .i64 ((x : Nat) : Int)) := far_cell F0 (sl_at hr (k := 0) rfl)
  have r1 : W.cell? ⟨g, o + 1, none⟩ = some (.int .i64 ((y : Nat) : Int)) := far_cell F0 (sl_at hr (k := 1) rfl)
  have hne1 : ¬ (k + 1) = g := by have := hgz.2; omega
  have e0 : ¬ (k + 1) = k := by omega
  have hE := h.step F0 MZ HZ.out
  obtain ⟨db, d1, LA, lc, rfl, _, z0, z1, z2, z3, z4, hS2⟩ := hE.dat hN (i := x) (by omega)
  have x0 := hE.c0
  have hx0 : (0 : Int) ≤ (x : Int) := by omega
  have hx1 : (x : Int) < (n : Int) := by omega
  rw [hl] at z4 hS2
  have HC1 := Lib.hid (fun (W' : World) (f : MM.Far [] W W') => name_any (hE.to f) hN hn hs hx)
  obtain ⟨R, hR⟩ : ∃ R, nameOf ns x = R := ⟨_, rfl⟩
  rw [hR] at HC1
  obtain rfl : R = some s := hR.symm.trans hnm
  simp only at HC1
  clear hr hz MZ F0 BL hgz hlen hE h hN hn hs hS2 z0 z1 z2 z3 hl hR hnm
  subst hW; subst hk
  unfold zP num at *
  unfold ptr at *
  go_enter Tryz.func49, Tryz.ntmps49
  go_wp2
  generalize (w.alloc (.cells #[.int .i64 a, .slice (some ⟨g, o, none⟩) 2 rc, .bool true] 95)).alloc (.cells #[.bool false, .int .u8 0, .int .i64 0, .int .i64 0, .int .i64 0, .string ⟨#[]⟩, .slice none 0 0, .int .u64 0, .slice none 0 0, .slice none 0 0, .nilFunc] 78) = W at *
  go_region_held3 (fun w' => w'.cell? ⟨w.heap.size, 0, none⟩ = some (.int .i64 a) ∧ w'.cell? ⟨w.heap.size, 1, none⟩ = some (.slice (some ⟨g, o, none⟩) 2 rc) ∧ w'.cell? ⟨w.heap.size, 2, none⟩ = some (.bool true) ∧ w'.cell? ⟨q, 0, none⟩ = some (.slice (some ⟨db, d1, none⟩) n c) ∧ w'.cell? ⟨g, o, none⟩ = some (.int .i64 x) ∧ w'.cell? ⟨db, d1 + x * 5 + 4, none⟩ = some (.slice LA 0 lc)) (go_keep) (fail)
  go_wp2_with (first
    | (go_at_call 83; (with_reducible refine (HC1.out _ ((MM.Far.refl [] W).drew)).mono ?_); rintro e w1 ⟨rfl, hF1⟩; have q0 := far_cell hF1 b0; have q1 := far_cell hF1 b1; have p0 := far_cell hF1 r0; have p1 := far_cell hF1 r1; have HF1 := Lib.hid (((MM.Far.refl [] W).drew).trans hF1 (by simp)); clear hF1))
  go_region_held3 (fun w' => w'.cell? ⟨w.heap.size, 0, none⟩ = some (.int .i64 a) ∧ w'.cell? ⟨w.heap.size, 1, none⟩ = some (.slice (some ⟨g, o, none⟩) 2 rc) ∧ w'.cell? ⟨g, o + 1, none⟩ = some (.int .i64 (y : Nat))) (first | (with_reducible assumption) | go_keep) (first
    | (go_at_call 87; (with_reducible refine (definition_any _ q (z_far HZ.out HF5.out) a s HI5.out).mono ?_); rintro e w3 ⟨v3, rfl, hI3, hF3⟩; obtain ⟨bad, kind, at2, nn2, s2, A, m2, c, A2, m3, c2, ins, rfl, hins⟩ := hI3.form; have hk3 := keep3 hF3 (by assumption); have HF3 := Lib.hid (MM.Far.trans HF5.out hF3 (by simp)); have HI3 := Lib.hid hI3; have HB3 := Lib.hid (HB.out.far HF3.out (by simp)); clear hF3 hI3; obtain ⟨v0, v1, v2, v3, v4, v5, v6, v7, v8, v9, v10, y0, y1, y2, y3, y4, y5, y6, y7, y8, y9, y10, hfz⟩ := HB3.out.cells)
    | (go_at_call 62; (with_reducible refine (datum_any _ q (z_drew (z_far HZ.out HF1.out)) y).mono ?_); rintro e w5 ⟨v5, rfl, hI5, hF5⟩; obtain ⟨f5, l5, rfl⟩ := hI5.func; have hk5 := keep3 hF5 (by assumption); have HF5 := Lib.hid (MM.Far.trans (MM.Far.drew HF1.out) hF5 (by simp)); have HI5 := Lib.hid hI5; clear hF5 hI5))
  go_wp2
  exact fin_pl rfl rfl rfl HB3.out (HF.out.trans HF3.out (by simp)) (by omega) HI3.out
theorem define_any (h : Env w0 w Z q (.slice DA n c) mb) (hN : NdR w0 DA ns) (hn : ns.length = n) (hs : ∀ i, (ndAt ns i).s.size ≤ 140737488355328) (hok : Ok ns) (a : Int) {rv : Value} {x : Nat} {r : List Nat} {top : Bool} (hr : Sl w Z rv (ints (x :: r))) (hx : x < n) (h2 : 1 ≤ r.length) :
    Calls Tryz.prog 49 #[ptr q, .agg #[num a, rv, .bool top]] w (PlanQ w Z q (defineP ns a (x :: r) top)) := by
  unfold defineP
  cases top with
  | false =>
    rw [if_pos rfl]
    exact define_low h.z a hr
  | true =>
    rw [if_neg (by simp), List.getD_cons_zero]
    by_cases hl : (ndAt ns x).l = []
    · rw [if_neg (by simp [hl])]
      cases hnm : nameOf ns x with
      | none => exact define_none h hN hn hs a hr hx hl hnm
      | some s =>
        simp only []
        by_cases h3 : 2 < (x :: r).length
        · rw [if_pos h3]
          exact define_many h hN hn hs a hr hx hl hnm (by simp at h3; omega)
        · rw [if_neg h3]
          obtain ⟨y, rfl⟩ : ∃ y, r = [y] := by
            cases r with
            | nil => simp at h2
            | cons y r =>
              cases r with
              | nil => exact ⟨y, rfl⟩
              | cons z r => simp at h3
          exact define_one h hN hn hs a hr hx hl hnm
    · rw [if_pos hl]
      cases hl2 : (ndAt ns x).l with
      | nil => exact absurd hl2 hl
      | cons p ps => exact define_fun h hN hn hs hok a hr hx hl2
end
end EW
end Go.Proofs.YtaghlpolljaedaaGreat
/-
  Contract of the code's shapes that count what stands behind a name; and of all the shapes. Conditions: sizes; the row of data may be.
-/
namespace Go.Proofs.YtaghlpolljaedaaGreat
open Go.RowKit
namespace EW
open LX SX RW6 EX
open RX (Nd)
section
variable (w : World) {Z : List Nat} (q : Nat) (hz : ∀ b ∈ Z, b < w.heap.size)
include hz
set_option maxRecDepth 20000 in
set_option maxHeartbeats 4000000 in
theorem btw_0 (mf : FuncId) (least most a : Int) {rv : Value} {r : List Nat} {top : Bool} {c1 c2 c3 : Nat} (pl : Pl) (hr : Sl w Z rv (ints r)) (h1 : Bx w Z c1 3 (num least)) (h2 : Bx w Z c2 3 (num most)) (h3 : Bx w Z c3 85 (.func (.func mf) #[] #[]))
    (hcf : ∀ W, (callFunc mf #[.agg #[num a, rv, .bool top]]).run Tryz.prog W = .ok (.enter mf #[.agg #[num a, rv, .bool top]]) W)
    (hbad : ((r.length : Int) < least ∨ most < (r.length : Int)) → pl = .bad a)
    (hmore : ¬ (r.length : Int) < least → ¬ most < (r.length : Int) → ∀ x Z2, MM.Far [] w x → (∀ b ∈ Z2, b ∈ Z ∨ w.heap.size ≤ b) → (∀ b ∈ Z2, b < x.heap.size) → Calls Tryz.prog mf #[.agg #[num a, rv, .bool top]] x (PlanQ x Z2 q pl)) :
    Calls Tryz.prog 80 #[.agg #[num a, rv, .bool top], ptr c1, ptr c2, ptr c3] w (PlanQ w Z q pl) := by
  obtain ⟨RA, rc, rfl, _⟩ := hr.form
  obtain ⟨m, hm⟩ : ∃ m, (ints r).length = m := ⟨_, rfl⟩
  have hmr : r.length = m := by rw [← hm, ints_len]
  rw [hm] at hr hmore hcf ⊢
  rw [hmr] at hbad hmore
  obtain ⟨W, hW⟩ : ∃ W, ((w.alloc (.cells #[num a, .slice RA m rc, .bool top] 95)).alloc zP) = W := ⟨_, rfl⟩
  obtain ⟨k, hk⟩ : ∃ k, w.heap.size = k := ⟨_, rfl⟩
  have F0 : MM.Far [] w W := by rw [← hW]; exact ((MM.Far.refl [] w).alloc _).alloc _
  have BL : MM.Row W k 95 [num a, .slice RA m rc, .bool top] := by rw [← hW]; exact (row_new 95 [num a, .slice RA m rc, .bool top] hk).alloc _
  have HB : Hid (PlBox W (k + 1)) := Lib.hid (by rw [← hW]; exact PlBox.new (by simp only [sz_alloc, hk]))
  have HZ : Hid (∀ x ∈ (k + 1) :: Z, x < W.heap.size) := Lib.hid (by rw [← hW]; exact z_cons (by simp only [sz_alloc, hk]) (z_alloc hz))
  have HF := Lib.hid F0
  have HK := Lib.hid hk
  have MZ : ∀ x ∈ (k + 1) :: Z, x ∈ Z ∨ w.heap.size ≤ x := fun x hx => (List.mem_cons.1 hx).elim (fun e => .inr (by omega)) .inl
  have b0 := BL.at (i := 0) rfl
  have b1 := BL.at (i := 1) rfl
  have b2 := BL.at (i := 2) rfl
  have g1 := (h1.far F0 (by simp)).at
  have g2 := (h2.far F0 (by simp)).at
  have g3 := (h3.far F0 (by simp)).at
  have hne1 : ¬ (k + 1) = c1 := by have := h1.lt; omega
  have hne2 : ¬ (k + 1) = c2 := by have := h2.lt; omega
  have hne3 : ¬ (k + 1) = c3 := by have := h3.lt; omega
  rcases (show ((m : Int) < least ∨ (¬ (m : Int) < least ∧ most < (m : Int))) ∨ (¬ (m : Int) < least ∧ ¬ most < (m : Int)) by omega) with hc | ⟨hc1, hc2⟩
  · have HE : Hid (pl = .bad a) := Lib.hid (hbad (by omega))
    rw [HE.out]
    clear hr hz MZ F0 BL h1 h2 h3 hbad hmore hcf hm hmr HE b2
    subst hW; subst hk
    unfold zP num at *
    unfold ptr at *
    rcases hc with hc1 | ⟨hc1, hc2⟩
    all_goals
      go_enter Tryz.func80, Tryz.ntmps80
      go_wp2_with (first
        | (go_at_call 55; refine (wrong_any (Z := (w.heap.size + 1) :: Z) _ q a).mono ?_; rintro e wp ⟨v, rfl, hI, hFp⟩; obtain ⟨bad, kind, at_, nn, s, A, m, c, A2, m2, c2, ins, rfl, hins⟩ := hI.form; have HFp := Lib.hid (MM.Far.trans (MM.Far.refl [] _) hFp (by simp)); have HBp := Lib.hid (HB.out.far HFp.out (by simp)); have HFq := Lib.hid (HF.out.trans HFp.out (by simp)); have HI := Lib.hid hI; clear hI; obtain ⟨v0, v1, v2, v3, v4, v5, v6, v7, v8, v9, v10, y0, y1, y2, y3, y4, y5, y6, y7, y8, y9, y10, hfz⟩ := HBp.out.cells))
      exact fin_pl rfl rfl rfl HBp.out HFq.out (by omega) HI.out
  · have HC := Lib.hid (hmore hc1 hc2 W ((k + 1) :: Z) F0 MZ HZ.out)
    clear hr hz MZ F0 BL h1 h2 h3 hbad hmore hm hmr
    subst hW; subst hk
    unfold zP num at *
    unfold ptr at *
    show Calls _ _ _ _ (PlanQ w Z q pl)
    go_enter Tryz.func80, Tryz.ntmps80
    go_wp2_with (fail)
    refine HC.out.mono ?_
    rintro e wp ⟨v, rfl, hI, hFp⟩
    obtain ⟨bad, kind, at_, nn, s, A, m, c, A2, m2, c2, ins, rfl, hins⟩ := hI.form
    have HBp := Lib.hid (HB.out.far hFp (by simp))
    have HFq := Lib.hid (HF.out.trans hFp (by simp))
    have HI := Lib.hid hI
    clear hI hFp
    obtain ⟨v0, v1, v2, v3, v4, v5, v6, v7, v8, v9, v10, y0, y1, y2, y3, y4, y5, y6, y7, y8, y9, y10, hfz⟩ := HBp.out.cells
    go_wp2
    exact fin_pl rfl rfl rfl HBp.out HFq.out (by omega) HI.out
set_option maxRecDepth 20000 in
set_option maxHeartbeats 4000000 in
theorem btw_1 (mf : FuncId) (bx : Nat) (least most a : Int) {rv : Value} {r : List Nat} {top : Bool} {c1 c2 c3 : Nat} (pl : Pl) (hr : Sl w Z rv (ints r)) (h1 : Bx w Z c1 3 (num least)) (h2 : Bx w Z c2 3 (num most)) (h3 : Bx w Z c3 85 (.func (.func mf) #[] #[ptr bx]))
    (hcf : ∀ W, (callFunc mf #[.agg #[num a, rv, .bool top], ptr bx]).run Tryz.prog W = .ok (.enter mf #[.agg #[num a, rv, .bool top], ptr bx]) W)
    (hbad : ((r.length : Int) < least ∨ most < (r.length : Int)) → pl = .bad a)
    (hmore : ¬ (r.length : Int) < least → ¬ most < (r.length : Int) → ∀ x Z2, MM.Far [] w x → (∀ b ∈ Z2, b ∈ Z ∨ w.heap.size ≤ b) → (∀ b ∈ Z2, b < x.heap.size) → Calls Tryz.prog mf #[.agg #[num a, rv, .bool top], ptr bx] x (PlanQ x Z2 q pl)) :
    Calls Tryz.prog 80 #[.agg #[num a, rv, .bool top], ptr c1, ptr c2, ptr c3] w (PlanQ w Z q pl) := by
  obtain ⟨RA, rc, rfl, _⟩ := hr.form
  obtain ⟨m, hm⟩ : ∃ m, (ints r).length = m := ⟨_, rfl⟩
  have hmr : r.length = m := by rw [← hm, ints_len]
  rw [hm] at hr hmore hcf ⊢
  rw [hmr] at hbad hmore
  obtain ⟨W, hW⟩ : ∃ W, ((w.alloc (.cells #[num a, .slice RA m rc, .bool top] 95)).alloc zP) = W := ⟨_, rfl⟩
  obtain ⟨k, hk⟩ : ∃ k, w.heap.size = k := ⟨_, rfl⟩
  have F0 : MM.Far [] w W := by rw [← hW]; exact ((MM.Far.refl [] w).alloc _).alloc _
  have BL : MM.Row W k 95 [num a, .slice RA m rc, .bool top] := by rw [← hW]; exact (row_new 95 [num a, .slice RA m rc, .bool top] hk).alloc _
  have HB : Hid (PlBox W (k + 1)) := Lib.hid (by rw [← hW]; exact PlBox.new (by simp only [sz_alloc, hk]))
  have HZ : Hid (∀ x ∈ (k + 1) :: Z, x < W.heap.size) := Lib.hid (by rw [← hW]; exact z_cons (by simp only [sz_alloc, hk]) (z_alloc hz))
  have HF := Lib.hid F0
  have HK := Lib.hid hk
  have MZ : ∀ x ∈ (k + 1) :: Z, x ∈ Z ∨ w.heap.size ≤ x := fun x hx => (List.mem_cons.1 hx).elim (fun e => .inr (by omega)) .inl
  have b0 := BL.at (i := 0) rfl
  have b1 := BL.at (i := 1) rfl
  have b2 := BL.at (i := 2) rfl
  have g1 := (h1.far F0 (by simp)).at
  have g2 := (h2.far F0 (by simp)).at
  have g3 := (h3.far F0 (by simp)).at
  have hne1 : ¬ (k + 1) = c1 := by have := h1.lt; omega
  have hne2 : ¬ (k + 1) = c2 := by have := h2.lt; omega
  have hne3 : ¬ (k + 1) = c3 := by have := h3.lt; omega
  rcases (show ((m : Int) < least ∨ (¬ (m : Int) < least ∧ most < (m : Int))) ∨ (¬ (m : Int) < least ∧ ¬ most < (m : Int)) by omega) with hc | ⟨hc1, hc2⟩
  · have HE : Hid (pl = .bad a) := Lib.hid (hbad (by omega))
    rw [HE.out]
    clear hr hz MZ F0 BL h1 h2 h3 hbad hmore hcf hm hmr HE b2
    subst hW; subst hk
    unfold zP num at *
    unfold ptr at *
    rcases hc with hc1 | ⟨hc1, hc2⟩
    all_goals
      go_enter Tryz.func80, Tryz.ntmps80
      go_wp2_with (first
        | (go_at_call 55; refine (wrong_any (Z := (w.heap.size + 1) :: Z) _ q a).mono ?_; rintro e wp ⟨v, rfl, hI, hFp⟩; obtain ⟨bad, kind, at_, nn, s, A, m, c, A2, m2, c2, ins, rfl, hins⟩ := hI.form; have HFp := Lib.hid (MM.Far.trans (MM.Far.refl [] _) hFp (by simp)); have HBp := Lib.hid (HB.out.far HFp.out (by simp)); have HFq := Lib.hid (HF.out.trans HFp.out (by simp)); have HI := Lib.hid hI; clear hI; obtain ⟨v0, v1, v2, v3, v4, v5, v6, v7, v8, v9, v10, y0, y1, y2, y3, y4, y5, y6, y7, y8, y9, y10, hfz⟩ := HBp.out.cells))
      exact fin_pl rfl rfl rfl HBp.out HFq.out (by omega) HI.out
  · have HC := Lib.hid (hmore hc1 hc2 W ((k + 1) :: Z) F0 MZ HZ.out)
    clear hr hz MZ F0 BL h1 h2 h3 hbad hmore hm hmr
    subst hW; subst hk
    unfold zP num at *
    unfold ptr at *
    show Calls _ _ _ _ (PlanQ w Z q pl)
    go_enter Tryz.func80, Tryz.ntmps80
    go_wp2_with (fail)
    refine HC.out.mono ?_
    rintro e wp ⟨v, rfl, hI, hFp⟩
    obtain ⟨bad, kind, at_, nn, s, A, m, c, A2, m2, c2, ins, rfl, hins⟩ := hI.form
    have HBp := Lib.hid (HB.out.far hFp (by simp))
    have HFq := Lib.hid (HF.out.trans hFp (by simp))
    have HI := Lib.hid hI
    clear hI hFp
    obtain ⟨v0, v1, v2, v3, v4, v5, v6, v7, v8, v9, v10, y0, y1, y2, y3, y4, y5, y6, y7, y8, y9, y10, hfz⟩ := HBp.out.cells
    go_wp2
    exact fin_pl rfl rfl rfl HBp.out HFq.out (by omega) HI.out
set_option maxRecDepth 20000 in
set_option maxHeartbeats 4000000 in
theorem btw_q (mf : FuncId) (least most a : Int) {rv : Value} {r : List Nat} {top : Bool} {c1 c2 c3 : Nat} (pl : Pl) (hr : Sl w Z rv (ints r)) (h1 : Bx w Z c1 3 (num least)) (h2 : Bx w Z c2 3 (num most)) (h3 : Bx w Z c3 85 (.func (.func mf) #[ptr q] #[]))
    (hcf : ∀ W, (callFunc mf #[ptr q, .agg #[num a, rv, .bool top]]).run Tryz.prog W = .ok (.enter mf #[ptr q, .agg #[num a, rv, .bool top]]) W)
    (hbad : ((r.length : Int) < least ∨ most < (r.length : Int)) → pl = .bad a)
    (hmore : ¬ (r.length : Int) < least → ¬ most < (r.length : Int) → ∀ x Z2, MM.Far [] w x → (∀ b ∈ Z2, b ∈ Z ∨ w.heap.size ≤ b) → (∀ b ∈ Z2, b < x.heap.size) → Calls Tryz.prog mf #[ptr q, .agg #[num a, rv, .bool top]] x (PlanQ x Z2 q pl)) :
    Calls Tryz.prog 80 #[.agg #[num a, rv, .bool top], ptr c1, ptr c2, ptr c3] w (PlanQ w Z q pl) := by
  obtain ⟨RA, rc, rfl, _⟩ := hr.form
  obtain ⟨m, hm⟩ : ∃ m, (ints r).length = m := ⟨_, rfl⟩
  have hmr : r.length = m := by rw [← hm, ints_len]
  rw [hm] at hr hmore hcf ⊢
  rw [hmr] at hbad hmore
  obtain ⟨W, hW⟩ : ∃ W, ((w.alloc (.cells #[num a, .slice RA m rc, .bool top] 95)).alloc zP) = W := ⟨_, rfl⟩
  obtain ⟨k, hk⟩ : ∃ k, w.heap.size = k := ⟨_, rfl⟩
  have F0 : MM.Far [] w W := by rw [← hW]; exact ((MM.Far.refl [] w).alloc _).alloc _
  have BL : MM.Row W k 95 [num a, .slice RA m rc, .bool top] := by rw [← hW]; exact (row_new 95 [num a, .slice RA m rc, .bool top] hk).alloc _
  have HB : Hid (PlBox W (k + 1)) := Lib.hid (by rw [← hW]; exact PlBox.new (by simp only [sz_alloc, hk]))
  have HZ : Hid (∀ x ∈ (k + 1) :: Z, x < W.heap.size) := Lib.hid (by rw [← hW]; exact z_cons (by simp only [sz_alloc, hk]) (z_alloc hz))
  have HF := Lib.hid F0
  have HK := Lib.hid hk
  have MZ : ∀ x ∈ (k + 1) :: Z, x ∈ Z ∨ w.heap.size ≤ x := fun x hx => (List.mem_cons.1 hx).elim (fun e => .inr (by omega)) .inl
  have b0 := BL.at (i := 0) rfl
  have b1 := BL.at (i := 1) rfl
  have b2 := BL.at (i := 2) rfl
  have g1 := (h1.far F0 (by simp)).at
  have g2 := (h2.far F0 (by simp)).at
  have g3 := (h3.far F0 (by simp)).at
  have hne1 : ¬ (k + 1) = c1 := by have := h1.lt; omega
  have hne2 : ¬ (k + 1) = c2 := by have := h2.lt; omega
  have hne3 : ¬ (k + 1) = c3 := by have := h3.lt; omega
  rcases (show ((m : Int) < least ∨ (¬ (m : Int) < least ∧ most < (m : Int))) ∨ (¬ (m : Int) < least ∧ ¬ most < (m : Int)) by omega) with hc | ⟨hc1, hc2⟩
  · have HE : Hid (pl = .bad a) := Lib.hid (hbad (by omega))
    rw [HE.out]
    clear hr hz MZ F0 BL h1 h2 h3 hbad hmore hcf hm hmr HE b2
    subst hW; subst hk
    unfold zP num at *
    unfold ptr at *
    rcases hc with hc1 | ⟨hc1, hc2⟩
    all_goals
      go_enter Tryz.func80, Tryz.ntmps80
      go_wp2_with (first
        | (go_at_call 55; refine (wrong_any (Z := (w.heap.size + 1) :: Z) _ q a).mono ?_; rintro e wp ⟨v, rfl, hI, hFp⟩; obtain ⟨bad, kind, at_, nn, s, A, m, c, A2, m2, c2, ins, rfl, hins⟩ := hI.form; have HFp := Lib.hid (MM.Far.trans (MM.Far.refl [] _) hFp (by simp)); have HBp := Lib.hid (HB.out.far HFp.out (by simp)); have HFq := Lib.hid (HF.out.trans HFp.out (by simp)); have HI := Lib.hid hI; clear hI; obtain ⟨v0, v1, v2, v3, v4, v5, v6, v7, v8, v9, v10, y0, y1, y2, y3, y4, y5, y6, y7, y8, y9, y10, hfz⟩ := HBp.out.cells))
      exact fin_pl rfl rfl rfl HBp.out HFq.out (by omega) HI.out
  · have HC := Lib.hid (hmore hc1 hc2 W ((k + 1) :: Z) F0 MZ HZ.out)
    clear hr hz MZ F0 BL h1 h2 h3 hbad hmore hm hmr
    subst hW; subst hk
    unfold zP num at *
    unfold ptr at *
    show Calls _ _ _ _ (PlanQ w Z q pl)
    go_enter Tryz.func80, Tryz.ntmps80
    go_wp2_with (fail)
    refine HC.out.mono ?_
    rintro e wp ⟨v, rfl, hI, hFp⟩
    obtain ⟨bad, kind, at_, nn, s, A, m, c, A2, m2, c2, ins, rfl, hins⟩ := hI.form
    have HBp := Lib.hid (HB.out.far hFp (by simp))
    have HFq := Lib.hid (HF.out.trans hFp (by simp))
    have HI := Lib.hid hI
    clear hI hFp
    obtain ⟨v0, v1, v2, v3, v4, v5, v6, v7, v8, v9, v10, y0, y1, y2, y3, y4, y5, y6, y7, y8, y9, y10, hfz⟩ := HBp.out.cells
    go_wp2
    exact fin_pl rfl rfl rfl HBp.out HFq.out (by omega) HI.out
end
end EW
end Go.Proofs.YtaghlpolljaedaaGreat
/-
  Contracts of all the shapes of layer 8's code, name by name. Conditions: sizes; the row of data may be.
-/
namespace Go.Proofs.YtaghlpolljaedaaGreat
open Go.RowKit
namespace EW
open LX SX RW6 EX
open RX (Nd)
/-- All that the shapes and the parts read. -/
structure Rdy (w0 w : World) (Z : List Nat) (q mb : Nat) (DA : Option Addr) (n c : Nat) (ns : List Nd) : Prop where
  env : Env w0 w Z q (.slice DA n c) mb
  nd : NdR w0 DA ns
  len : ns.length = n
  str : ∀ i, (ndAt ns i).s.size ≤ 140737488355328
  ok : Ok ns
  few : ∀ i, i < n → (ndAt ns i).l.length ≤ 100000
section
variable {w0 w : World} {Z : List Nat} {q mb : Nat} {DA : Option Addr} {n c : Nat} {ns : List Nd}
theorem Rdy.step {x : World} {Z2 : List Nat} (R : Rdy w0 w Z q mb DA n c ns) (f : MM.Far [] w x) (hZ : ∀ b ∈ Z2, b ∈ Z ∨ w.heap.size ≤ b) (hz : ∀ b ∈ Z2, b < x.heap.size) : Rdy w0 x Z2 q mb DA n c ns := ⟨R.env.step f hZ hz, R.nd, R.len, R.str, R.ok, R.few⟩
theorem Rdy.sl {x : World} {Z2 : List Nat} {v : Value} {vs : List Value} (hr : Sl w Z v vs) (f : MM.Far [] w x) (hZ : ∀ b ∈ Z2, b ∈ Z ∨ w.heap.size ≤ b) : Sl x Z2 v vs := (hr.more hZ).far f (by simp)
theorem Rdy.kid {i p : Nat} (R : Rdy w0 w Z q mb DA n c ns) (hp : p ∈ (ndAt ns i).l) : p < n := by
  have := (EX.kid R.ok hp).2
  have := R.len
  omega
theorem cond_any (R : Rdy w0 w Z q mb DA n c ns) (a : Int) {v : Value} {l : List Nat} (hl : Sl w Z v (ints l)) (hi : ∀ i ∈ l, i < n) :
    Calls Tryz.prog 53 #[ptr q, num a, v] w (PlanQ w Z q (condP ns a l)) := by
  cases l with
  | nil => exact cond_nil w q R.env.z a hl
  | cons i l => exact cond_cons R.env R.nd R.len R.ok a hl (hi i (List.mem_cons_self ..))
theorem len_max {v : Value} {r : List Nat} (hr : Sl w Z v (ints r)) : (r.length : Int) ≤ 9223372036854775807 := by
  obtain ⟨A, d, _, h1, h2⟩ := hr.form
  rw [ints_len] at h1
  unfold maxLen at h2
  omega
theorem len_two {r : List Nat} (h1 : r.length = 2) : ∃ x y, r = [x, y] := by
  match r, h1 with
  | [x, y], _ => exact ⟨x, y, rfl⟩
theorem len_cons {r : List Nat} (h1 : 1 ≤ r.length) : ∃ x t, r = x :: t := by
  match r, h1 with
  | x :: t, _ => exact ⟨x, t, rfl⟩
theorem sh_quote (R : Rdy w0 w Z q mb DA n c ns) (a : Int) {rv : Value} {r : List Nat} {top : Bool} {b1 b2 b3 : Nat} (hr : Sl w Z rv (ints r)) (hin : ∀ i ∈ r, i < n) (h1 : Bx w Z b1 3 (num (least nQuote))) (h2 : Bx w Z b2 3 (num (most nQuote))) (h3 : Bx w Z b3 85 (.func (.func 42) #[] #[])) :
    Calls Tryz.prog 80 #[.agg #[num a, rv, .bool top], ptr b1, ptr b2, ptr b3] w (PlanQ w Z q (EX.shape ns nQuote a r top)) := by
  have hmx := len_max hr
  have e1 : ((least nQuote : Nat) : Int) = 1 := rfl
  have e2 : most nQuote = 1 := rfl
  rw [e1] at h1
  rw [e2] at h2
  refine btw_0 w q R.env.z 42 1 1 a (EX.shape ns nQuote a r top) hr h1 h2 h3 (fun W => by kernel_rfl) (fun hb => ?_) (fun g1 g2 x Z2 f hZ2 hz2 => ?_)
  · rw [shape_quote]
    by_cases h5 : r.length < 1
    · rw [if_pos h5]
    · rw [if_neg h5, if_pos (by omega)]
  · have RX := R.step f hZ2 hz2
    obtain ⟨y, t, rfl⟩ := len_cons (r := r) (by omega)
    obtain rfl : t = [] := by
      cases t with
      | nil => rfl
      | cons u t => simp at g2; omega
    rw [shape_quote, if_neg (by simp), if_neg (by simp), List.getD_cons_zero]
    exact quote_any x q hz2 a (Rdy.sl hr f hZ2)
theorem sh_iff (R : Rdy w0 w Z q mb DA n c ns) (a : Int) {rv : Value} {r : List Nat} {top : Bool} {b1 b2 b3 : Nat} (hr : Sl w Z rv (ints r)) (hin : ∀ i ∈ r, i < n) (h1 : Bx w Z b1 3 (num (least nIf))) (h2 : Bx w Z b2 3 (num (most nIf))) (h3 : Bx w Z b3 85 (.func (.func 43) #[ptr q] #[])) :
    Calls Tryz.prog 80 #[.agg #[num a, rv, .bool top], ptr b1, ptr b2, ptr b3] w (PlanQ w Z q (EX.shape ns nIf a r top)) := by
  have hmx := len_max hr
  have e1 : ((least nIf : Nat) : Int) = 2 := rfl
  have e2 : most nIf = 3 := rfl
  rw [e1] at h1
  rw [e2] at h2
  refine btw_q w q R.env.z 43 2 3 a (EX.shape ns nIf a r top) hr h1 h2 h3 (fun W => by kernel_rfl) (fun hb => ?_) (fun g1 g2 x Z2 f hZ2 hz2 => ?_)
  · rw [shape_if]
    by_cases h5 : r.length < 2
    · rw [if_pos h5]
    · rw [if_neg h5, if_pos (by omega)]
  · have RX := R.step f hZ2 hz2
    rw [shape_if, if_neg (by omega), if_neg (by omega)]
    by_cases h2 : r.length = 2
    · obtain ⟨y, u, rfl⟩ := len_two h2
      exact choice2 x q hz2 a (Rdy.sl hr f hZ2)
    · obtain ⟨y, t, rfl⟩ := len_cons (r := r) (by omega)
      obtain ⟨u, v, rfl⟩ := len_two (r := t) (by simp only [List.length_cons] at g1 g2 h2; omega)
      exact choice3 x q hz2 a (Rdy.sl hr f hZ2)
theorem sh_lambda (R : Rdy w0 w Z q mb DA n c ns) (a : Int) {rv : Value} {r : List Nat} {top : Bool} {b1 b2 b3 : Nat} (hr : Sl w Z rv (ints r)) (hin : ∀ i ∈ r, i < n) (h1 : Bx w Z b1 3 (num (least nLambda))) (h2 : Bx w Z b2 3 (num (most nLambda))) (h3 : Bx w Z b3 85 (.func (.func 45) #[ptr q] #[])) :
    Calls Tryz.prog 80 #[.agg #[num a, rv, .bool top], ptr b1, ptr b2, ptr b3] w (PlanQ w Z q (EX.shape ns nLambda a r top)) := by
  have hmx := len_max hr
  have e1 : ((least nLambda : Nat) : Int) = 2 := rfl
  have e2 : most nLambda = 9223372036854775807 := rfl
  rw [e1] at h1
  rw [e2] at h2
  refine btw_q w q R.env.z 45 2 9223372036854775807 a (EX.shape ns nLambda a r top) hr h1 h2 h3 (fun W => by kernel_rfl) (fun hb => ?_) (fun g1 g2 x Z2 f hZ2 hz2 => ?_)
  · rw [shape_lambda, if_pos (by omega)]
  · have RX := R.step f hZ2 hz2
    rw [shape_lambda, if_neg (by omega)]
    obtain ⟨y, t, rfl⟩ := len_cons (r := r) (by omega)
    exact lambda_any RX.env R.nd R.len R.str R.ok a (Rdy.sl hr f hZ2) (hin y (List.mem_cons_self ..))
theorem sh_set (R : Rdy w0 w Z q mb DA n c ns) (a : Int) {rv : Value} {r : List Nat} {top : Bool} {b1 b2 b3 : Nat} (hr : Sl w Z rv (ints r)) (hin : ∀ i ∈ r, i < n) (h1 : Bx w Z b1 3 (num (least nSet))) (h2 : Bx w Z b2 3 (num (most nSet))) (h3 : Bx w Z b3 85 (.func (.func 46) #[ptr q] #[])) :
    Calls Tryz.prog 80 #[.agg #[num a, rv, .bool top], ptr b1, ptr b2, ptr b3] w (PlanQ w Z q (EX.shape ns nSet a r top)) := by
  have hmx := len_max hr
  have e1 : ((least nSet : Nat) : Int) = 2 := rfl
  have e2 : most nSet = 2 := rfl
  rw [e1] at h1
  rw [e2] at h2
  refine btw_q w q R.env.z 46 2 2 a (EX.shape ns nSet a r top) hr h1 h2 h3 (fun W => by kernel_rfl) (fun hb => ?_) (fun g1 g2 x Z2 f hZ2 hz2 => ?_)
  · rw [shape_set]
    by_cases h5 : r.length < 2
    · rw [if_pos h5]
    · rw [if_neg h5, if_pos (by omega)]
  · have RX := R.step f hZ2 hz2
    rw [shape_set, if_neg (by omega), if_neg (by omega)]
    obtain ⟨y, u, rfl⟩ := len_two (r := r) (by omega)
    exact set_any RX.env R.nd R.len R.str a (Rdy.sl hr f hZ2) (hin y (List.mem_cons_self ..))
theorem sh_begin (R : Rdy w0 w Z q mb DA n c ns) {bx : Nat} (hx : Bx w Z bx 44 (ptr q)) (a : Int) {rv : Value} {r : List Nat} {top : Bool} {b1 b2 b3 : Nat} (hr : Sl w Z rv (ints r)) (_hin : ∀ i ∈ r, i < n) (h1 : Bx w Z b1 3 (num (least nBegin))) (h2 : Bx w Z b2 3 (num (most nBegin))) (h3 : Bx w Z b3 85 (.func (.func 47) #[] #[ptr bx])) :
    Calls Tryz.prog 80 #[.agg #[num a, rv, .bool top], ptr b1, ptr b2, ptr b3] w (PlanQ w Z q (EX.shape ns nBegin a r top)) := by
  have hmx := len_max hr
  have e1 : ((least nBegin : Nat) : Int) = 1 := rfl
  have e2 : most nBegin = 9223372036854775807 := rfl
  rw [e1] at h1
  rw [e2] at h2
  refine btw_1 w q R.env.z 47 bx 1 9223372036854775807 a (EX.shape ns nBegin a r top) hr h1 h2 h3 (fun W => by kernel_rfl) (fun hb => ?_) (fun g1 g2 x Z2 f hZ2 hz2 => ?_)
  · rw [shape_begin, if_pos (by omega)]
  · have RX := R.step f hZ2 hz2
    rw [shape_begin, if_neg (by omega)]
    exact begin_any x q hz2 a (Rdy.sl hr f hZ2) ((hx.more hZ2).far f (by simp)) (fun y Z3 f3 hZ3 hz3 hs3 => body_any y q hz3 a hs3)
theorem sh_define (R : Rdy w0 w Z q mb DA n c ns) (a : Int) {rv : Value} {r : List Nat} {top : Bool} {b1 b2 b3 : Nat} (hr : Sl w Z rv (ints r)) (hin : ∀ i ∈ r, i < n) (h1 : Bx w Z b1 3 (num (least nDefine))) (h2 : Bx w Z b2 3 (num (most nDefine))) (h3 : Bx w Z b3 85 (.func (.func 49) #[ptr q] #[])) :
    Calls Tryz.prog 80 #[.agg #[num a, rv, .bool top], ptr b1, ptr b2, ptr b3] w (PlanQ w Z q (EX.shape ns nDefine a r top)) := by
  have hmx := len_max hr
  have e1 : ((least nDefine : Nat) : Int) = 2 := rfl
  have e2 : most nDefine = 9223372036854775807 := rfl
  rw [e1] at h1
  rw [e2] at h2
  refine btw_q w q R.env.z 49 2 9223372036854775807 a (EX.shape ns nDefine a r top) hr h1 h2 h3 (fun W => by kernel_rfl) (fun hb => ?_) (fun g1 g2 x Z2 f hZ2 hz2 => ?_)
  · rw [shape_define, if_pos (by omega)]
  · have RX := R.step f hZ2 hz2
    rw [shape_define, if_neg (by omega)]
    obtain ⟨y, t, rfl⟩ := len_cons (r := r) (by omega)
    exact define_any RX.env R.nd R.len R.str R.ok a (Rdy.sl hr f hZ2) (hin y (List.mem_cons_self ..)) (by simp only [List.length_cons] at g1; omega)
theorem sh_lett (R : Rdy w0 w Z q mb DA n c ns) (a : Int) {rv : Value} {r : List Nat} {top : Bool} {b1 b2 b3 : Nat} (hr : Sl w Z rv (ints r)) (hin : ∀ i ∈ r, i < n) (h1 : Bx w Z b1 3 (num (least nLet))) (h2 : Bx w Z b2 3 (num (most nLet))) (h3 : Bx w Z b3 85 (.func (.func 50) #[ptr q] #[])) :
    Calls Tryz.prog 80 #[.agg #[num a, rv, .bool top], ptr b1, ptr b2, ptr b3] w (PlanQ w Z q (EX.shape ns nLet a r top)) := by
  have hmx := len_max hr
  have e1 : ((least nLet : Nat) : Int) = 2 := rfl
  have e2 : most nLet = 9223372036854775807 := rfl
  rw [e1] at h1
  rw [e2] at h2
  refine btw_q w q R.env.z 50 2 9223372036854775807 a (EX.shape ns nLet a r top) hr h1 h2 h3 (fun W => by kernel_rfl) (fun hb => ?_) (fun g1 g2 x Z2 f hZ2 hz2 => ?_)
  · rw [shape_let, if_pos (by omega)]
  · have RX := R.step f hZ2 hz2
    rw [shape_let, if_neg (by omega)]
    obtain ⟨y, t, rfl⟩ := len_cons (r := r) (by omega)
    exact let_any RX.env R.nd R.len R.str R.ok R.few a (Rdy.sl hr f hZ2) (hin y (List.mem_cons_self ..))
theorem sh_star (R : Rdy w0 w Z q mb DA n c ns) (a : Int) {rv : Value} {r : List Nat} {top : Bool} {b1 b2 b3 : Nat} (hr : Sl w Z rv (ints r)) (hin : ∀ i ∈ r, i < n) (h1 : Bx w Z b1 3 (num (least nStar))) (h2 : Bx w Z b2 3 (num (most nStar))) (h3 : Bx w Z b3 85 (.func (.func 51) #[ptr q] #[])) :
    Calls Tryz.prog 80 #[.agg #[num a, rv, .bool top], ptr b1, ptr b2, ptr b3] w (PlanQ w Z q (EX.shape ns nStar a r top)) := by
  have hmx := len_max hr
  have e1 : ((least nStar : Nat) : Int) = 2 := rfl
  have e2 : most nStar = 9223372036854775807 := rfl
  rw [e1] at h1
  rw [e2] at h2
  refine btw_q w q R.env.z 51 2 9223372036854775807 a (EX.shape ns nStar a r top) hr h1 h2 h3 (fun W => by kernel_rfl) (fun hb => ?_) (fun g1 g2 x Z2 f hZ2 hz2 => ?_)
  · rw [shape_star, if_pos (by omega)]
  · have RX := R.step f hZ2 hz2
    rw [shape_star, if_neg (by omega)]
    obtain ⟨y, t, rfl⟩ := len_cons (r := r) (by omega)
    exact star_any RX.env R.nd R.len R.str R.ok R.few a (Rdy.sl hr f hZ2) (hin y (List.mem_cons_self ..))
theorem sh_cond (R : Rdy w0 w Z q mb DA n c ns) {bx : Nat} (hx : Bx w Z bx 44 (ptr q)) (a : Int) {rv : Value} {r : List Nat} {top : Bool} {b1 b2 b3 : Nat} (hr : Sl w Z rv (ints r)) (hin : ∀ i ∈ r, i < n) (h1 : Bx w Z b1 3 (num (least nCond))) (h2 : Bx w Z b2 3 (num (most nCond))) (h3 : Bx w Z b3 85 (.func (.func 52) #[] #[ptr bx])) :
    Calls Tryz.prog 80 #[.agg #[num a, rv, .bool top], ptr b1, ptr b2, ptr b3] w (PlanQ w Z q (EX.shape ns nCond a r top)) := by
  have hmx := len_max hr
  have e1 : ((least nCond : Nat) : Int) = 1 := rfl
  have e2 : most nCond = 9223372036854775807 := rfl
  rw [e1] at h1
  rw [e2] at h2
  refine btw_1 w q R.env.z 52 bx 1 9223372036854775807 a (EX.shape ns nCond a r top) hr h1 h2 h3 (fun W => by kernel_rfl) (fun hb => ?_) (fun g1 g2 x Z2 f hZ2 hz2 => ?_)
  · rw [shape_cond, if_pos (by omega)]
  · have RX := R.step f hZ2 hz2
    rw [shape_cond, if_neg (by omega)]
    exact condS_any x q hz2 a (Rdy.sl hr f hZ2) ((hx.more hZ2).far f (by simp)) (fun y Z3 f3 hZ3 hz3 hs3 => cond_any (RX.step f3 hZ3 hz3) a hs3 hin)
theorem sh_when (R : Rdy w0 w Z q mb DA n c ns) {bx : Nat} (hx : Bx w Z bx 44 (ptr q)) (a : Int) {rv : Value} {r : List Nat} {top : Bool} {b1 b2 b3 : Nat} (hr : Sl w Z rv (ints r)) (hin : ∀ i ∈ r, i < n) (h1 : Bx w Z b1 3 (num (least nWhen))) (h2 : Bx w Z b2 3 (num (most nWhen))) (h3 : Bx w Z b3 85 (.func (.func 60) #[] #[ptr bx])) :
    Calls Tryz.prog 80 #[.agg #[num a, rv, .bool top], ptr b1, ptr b2, ptr b3] w (PlanQ w Z q (EX.shape ns nWhen a r top)) := by
  have hmx := len_max hr
  have e1 : ((least nWhen : Nat) : Int) = 2 := rfl
  have e2 : most nWhen = 9223372036854775807 := rfl
  rw [e1] at h1
  rw [e2] at h2
  refine btw_1 w q R.env.z 60 bx 2 9223372036854775807 a (EX.shape ns nWhen a r top) hr h1 h2 h3 (fun W => by kernel_rfl) (fun hb => ?_) (fun g1 g2 x Z2 f hZ2 hz2 => ?_)
  · rw [shape_when, if_pos (by omega)]
  · have RX := R.step f hZ2 hz2
    rw [shape_when, if_neg (by omega)]
    obtain ⟨y, t, rfl⟩ := len_cons (r := r) (by omega)
    exact when_any x q hz2 a (Rdy.sl hr f hZ2) ((hx.more hZ2).far f (by simp))
theorem sh_unl (R : Rdy w0 w Z q mb DA n c ns) {bx : Nat} (hx : Bx w Z bx 44 (ptr q)) (a : Int) {rv : Value} {r : List Nat} {top : Bool} {b1 b2 b3 : Nat} (hr : Sl w Z rv (ints r)) (hin : ∀ i ∈ r, i < n) (h1 : Bx w Z b1 3 (num (least nUnless))) (h2 : Bx w Z b2 3 (num (most nUnless))) (h3 : Bx w Z b3 85 (.func (.func 64) #[] #[ptr bx])) :
    Calls Tryz.prog 80 #[.agg #[num a, rv, .bool top], ptr b1, ptr b2, ptr b3] w (PlanQ w Z q (EX.shape ns nUnless a r top)) := by
  have hmx := len_max hr
  have e1 : ((least nUnless : Nat) : Int) = 2 := rfl
  have e2 : most nUnless = 9223372036854775807 := rfl
  rw [e1] at h1
  rw [e2] at h2
  refine btw_1 w q R.env.z 64 bx 2 9223372036854775807 a (EX.shape ns nUnless a r top) hr h1 h2 h3 (fun W => by kernel_rfl) (fun hb => ?_) (fun g1 g2 x Z2 f hZ2 hz2 => ?_)
  · rw [shape_unless, if_pos (by omega)]
  · have RX := R.step f hZ2 hz2
    rw [shape_unless, if_neg (by omega)]
    obtain ⟨y, t, rfl⟩ := len_cons (r := r) (by omega)
    exact unless_any x q hz2 a (Rdy.sl hr f hZ2) ((hx.more hZ2).far f (by simp))
theorem btw_sh (R : Rdy w0 w Z q mb DA n c ns) {s : ByteArray} {v : Value} (h : In w Z q s v) (a : Int) {rv : Value} {r : List Nat} {top : Bool} {b1 b2 b3 : Nat} (hr : Sl w Z rv (ints r)) (hin : ∀ i ∈ r, i < n) (h1 : Bx w Z b1 3 (num (least s))) (h2 : Bx w Z b2 3 (num (most s))) (h3 : Bx w Z b3 85 v) :
    Calls Tryz.prog 80 #[.agg #[num a, rv, .bool top], ptr b1, ptr b2, ptr b3] w (PlanQ w Z q (EX.shape ns s a r top)) := by
  cases h with
  | quote => exact sh_quote R a hr hin h1 h2 h3
  | iff => exact sh_iff R a hr hin h1 h2 h3
  | lambda => exact sh_lambda R a hr hin h1 h2 h3
  | set => exact sh_set R a hr hin h1 h2 h3
  | begin hx => exact sh_begin R hx a hr hin h1 h2 h3
  | define => exact sh_define R a hr hin h1 h2 h3
  | lett => exact sh_lett R a hr hin h1 h2 h3
  | star => exact sh_star R a hr hin h1 h2 h3
  | cond hx => exact sh_cond R hx a hr hin h1 h2 h3
  | when hx => exact sh_when R hx a hr hin h1 h2 h3
  | unl hx => exact sh_unl R hx a hr hin h1 h2 h3
theorem els_sh (R : Rdy w0 w Z q mb DA n c ns) (a : Int) {rv : Value} {r : List Nat} {top : Bool} (hr : Sl w Z rv (ints r)) :
    Calls Tryz.prog 54 #[.agg #[num a, rv, .bool top]] w (PlanQ w Z q (EX.shape ns nElse a r top)) := by
  rw [shape_else, if_neg (by omega)]
  exact elseS_any w q R.env.z a hr
theorem and_sh (R : Rdy w0 w Z q mb DA n c ns) {bx : Nat} (hx : Bx w Z bx 44 (ptr q)) (a : Int) {rv : Value} {r : List Nat} {top : Bool} (hr : Sl w Z rv (ints r)) :
    Calls Tryz.prog 56 #[.agg #[num a, rv, .bool top], ptr bx] w (PlanQ w Z q (EX.shape ns nAnd a r top)) := by
  rw [shape_and, if_neg (by omega)]
  exact andS_any w q R.env.z a hr hx (fun y Z3 f3 hZ3 hz3 hs3 => and_any y q hz3 a hs3)
theorem or_sh (R : Rdy w0 w Z q mb DA n c ns) {bx : Nat} (hx : Bx w Z bx 44 (ptr q)) (a : Int) {rv : Value} {r : List Nat} {top : Bool} (hr : Sl w Z rv (ints r)) :
    Calls Tryz.prog 58 #[.agg #[num a, rv, .bool top], ptr bx] w (PlanQ w Z q (EX.shape ns nOr a r top)) := by
  rw [shape_or, if_neg (by omega)]
  exact orS_any w q R.env.z a hr hx (fun y Z3 f3 hZ3 hz3 hs3 => or_any y q hz3 a hs3)
end
end EW
end Go.Proofs.YtaghlpolljaedaaGreat
