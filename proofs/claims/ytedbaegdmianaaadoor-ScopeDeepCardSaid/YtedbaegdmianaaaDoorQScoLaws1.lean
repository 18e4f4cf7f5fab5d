/-
  Several texts in one: ScoSame, ScoShown, ScoLaws1.
-/
import Derived.Test.YtedbaegdmianaaaDoorQExpDta
import Derived.Test.YtedbaegdmianaaaDoorQScoOf
import Derived.Test.YtedbaegdmianaaaDoorQScoNmP
namespace Go.Proofs.YtedbaegdmianaaaDoor
open Go.RowKit
set_option linter.unusedVariables false
namespace SM
open LX SX RW6 EX SC
open EW (Sl Bx ptr num strs sz_alloc row_new)
open RX (Nd)
open RM6 (Kin)
def RfR (w : World) (A : Option Addr) (rs : List Rf) : Prop :=
  ∀ (k : Nat) (h : k < rs.length), ∃ b o LA lc, A = some ⟨b, o, none⟩ ∧ b < w.heap.size ∧ w.cell? ⟨b, o + k * 8, none⟩ = some (.int .u8 rs[k].kind) ∧ w.cell? ⟨b, o + k * 8 + 1, none⟩ = some (.int .i64 rs[k].at_) ∧ w.cell? ⟨b, o + k * 8 + 2, none⟩ = some (.int .i64 rs[k].n) ∧
    w.cell? ⟨b, o + k * 8 + 3, none⟩ = some (.int .i64 rs[k].a) ∧ w.cell? ⟨b, o + k * 8 + 4, none⟩ = some (.string rs[k].s) ∧ w.cell? ⟨b, o + k * 8 + 5, none⟩ = some (.slice none 0 0) ∧ w.cell? ⟨b, o + k * 8 + 6, none⟩ = some (.int .u64 rs[k].w) ∧
    w.cell? ⟨b, o + k * 8 + 7, none⟩ = some (.slice LA rs[k].l.length lc) ∧ IntRow w LA rs[k].l
theorem RfR.far {w w' : World} {A : Option Addr} {fs : List Rf} (h : RfR w A fs) (f : MM.Far [] w w') : RfR w' A fs := by
  intro k hk
  obtain ⟨b, o, LA, lc, e, hb, c0, c1, c2, c3, c4, c5, c6, c7, hI⟩ := h k hk
  have g (x : Nat) : w'.cell? ⟨b, x, none⟩ = w.cell? ⟨b, x, none⟩ := f.cell (p := ⟨b, x, none⟩) hb (by simp)
  exact ⟨b, o, LA, lc, e, Nat.lt_of_lt_of_le hb f.size, (g _).trans c0, (g _).trans c1, (g _).trans c2, (g _).trans c3, (g _).trans c4, (g _).trans c5, (g _).trans c6, (g _).trans c7, hI.far f⟩
theorem rfC_at : ∀ (rs : List (Rf × Value)) (k : Nat) (h : k < rs.length) (j : Nat) (_ : j < 8), (rfC rs)[k * 8 + j]? = (rfL rs[k])[j]? := by
  intro rs
  induction rs with
  | nil => intro k h; simp at h
  | cons x rs ih =>
    intro k h j hj
    have e : rfC (x :: rs) = rfL x ++ rfC rs := by simp [rfC]
    have hl : (rfL x).length = 8 := rfl
    rw [e]
    cases k with
    | zero => rw [Nat.zero_mul, Nat.zero_add, List.getElem?_append_left (by omega)]; rfl
    | succ k =>
      rw [List.getElem?_append_right (by omega), hl]
      have := ih k (by simpa using h) j hj
      rw [show (k + 1) * 8 + j - 8 = k * 8 + j from by omega, this]
      rfl
theorem rf_rows {w : World} {base : Nat} {fv tv : Value} {rs : List (Rf × Value)} {tops : List Nat} (hr : w.ownsRow base 33 8 fv rs.length (rfC rs)) (hk : Kin w base ((tv, tops) :: kinsR rs)) :
    ∃ A c, fv = .slice A rs.length c ∧ rs.length ≤ c ∧ c ≤ maxLen ∧ (A = none → c = 0) ∧ RfR w A (rs.map (·.1)) := by
  obtain ⟨A, c, rfl, k0, k1, k2, k3, hh⟩ := MO.form hr
  refine ⟨A, c, rfl, k1, k2, k0, fun k hk1 => ?_⟩
  have hk2 : k < rs.length := by simpa using hk1
  rcases hh with ⟨_, hz, _⟩ | ⟨g, rfl, _, hlt⟩
  · omega
  obtain ⟨LA, lc, e, _, _, _, hI⟩ := own_ints (hk.each (rs[k].2, rs[k].1.l) (by
    refine List.mem_cons_of_mem _ ?_
    unfold kinsR
    exact List.mem_map.2 ⟨rs[k], List.getElem_mem hk2, rfl⟩))
  have c (j : Nat) (hj : j < 8) (u : Value) (hu : (rfL rs[k])[j]? = some u) : w.cell? ⟨g, 0 + k * 8 + j, none⟩ = some u := by
    have := @World.ownsRow.cells w _ _ _ _ _ _ hr g rfl (k * 8 + j) u ((rfC_at rs k hk2 j hj).trans hu)
    rw [MM.head_add] at this
    rw [Nat.zero_add]; exact this
  have em : (rs.map (·.1))[k] = rs[k].1 := by simp
  rw [em]
  exact ⟨g, 0, LA, lc, rfl, hlt, c 0 (by omega) _ rfl, c 1 (by omega) _ rfl, c 2 (by omega) _ rfl, c 3 (by omega) _ rfl, c 4 (by omega) _ rfl, c 5 (by omega) _ rfl, c 6 (by omega) _ rfl, (c 7 (by omega) _ rfl).trans (congrArg some e), hI⟩
theorem tops_row {w : World} {base : Nat} {tv : Value} {rs : List (Rf × Value)} {tops : List Nat} (hk : Kin w base ((tv, tops) :: kinsR rs)) : ∃ A c, tv = .slice A tops.length c ∧ tops.length ≤ c ∧ c ≤ maxLen ∧ (A = none → c = 0) ∧ IntRow w A tops := own_ints (hk.each (tv, tops) (List.mem_cons_self ..))
set_option maxHeartbeats 4000000 in
set_option maxRecDepth 20000 in
theorem rsame_yes (fs : List Rf) (n : Nat) (hn : fs.length = n) (hm : n ≤ 900000000) (hl : ∀ x ∈ fs, x.l.length ≤ 100000) (A1 A2 : Option Addr) (c1 c2 : Nat) (w : World) (h1 : RfR w A1 fs) (h2 : RfR w A2 fs) :
    Calls Tryd.prog 13 #[.slice A1 n c1, .slice A2 n c2] w fun e w' => e = .returned (.bool true) ∧ MM.Far [] w w' := by
  have H1 := Lib.hid h1
  have H2 := Lib.hid h2
  have HN := Lib.hid hn
  have HLN := Lib.hid hl
  have HD0 := Lib.hid (MM.Far.refl [] w)
  clear h1 h2 hn hl
  go_enter Tryd.func13, Tryd.ntmps13
  go_wp2
  go_loopg [5] n (fun g i wr => ∃ k : Nat, k + g = n ∧ i = .int .i64 (k : Int) ∧ Hid (MM.Far [] w wr))
  case atStart => exact ⟨0, by omega, rfl, HD0⟩
  case round =>
    obtain ⟨k, hk, rfl, hD⟩ := hrel
    obtain ⟨wo, rfl⟩ : ∃ wo, wo = wr := ⟨_, rfl⟩
    clear HD0
    have hkn : k ≤ n := by omega
    by_cases hlt : k < n
    · have hk2 : k < fs.length := by rw [HN.out]; exact hlt
      obtain ⟨b1, o1, L1, e1, rfl, hb1, a0, a1, a2, a3, a4, a5, a6, a7, i1⟩ := (H1.out.far hD.out) k hk2
      obtain ⟨b2, o2, L2, e2, rfl, hb2, d0, d1, d2, d3, d4, d5, d6, d7, i2⟩ := (H2.out.far hD.out) k hk2
      have hll := HLN.out _ (List.getElem_mem hk2)
      generalize fs[k] = t at *
      obtain ⟨kd, at_, nn, aa, ss, ww, l⟩ := t
      simp only at a0 a1 a2 a3 a4 a5 a6 a7 i1 d0 d1 d2 d3 d4 d5 d6 d7 i2 hll
      obtain ⟨m, hm2⟩ : ∃ m, l.length = m := ⟨_, rfl⟩
      rw [hm2] at a7 d7 hll
      have FW := ((MM.Far.refl [] wo).alloc (.cells #[.int .u8 kd, .int .i64 at_, .int .i64 nn, .int .i64 aa, .string ss, .slice none 0 0, .int .u64 ww, .slice L1 m e1] 33)).alloc (.cells #[.int .u8 kd, .int .i64 at_, .int .i64 nn, .int .i64 aa, .string ss, .slice none 0 0, .int .u64 ww, .slice L2 m e2] 33)
      have HI := Lib.hid (ints_call (c1 := e1) (c2 := e2) hm2 hll (i1.far FW) (i2.far FW))
      have d0' := far_cell ((MM.Far.refl [] wo).alloc (.cells #[.int .u8 kd, .int .i64 at_, .int .i64 nn, .int .i64 aa, .string ss, .slice none 0 0, .int .u64 ww, .slice L1 m e1] 33)) d0
      have HFW := Lib.hid FW
      clear hk2 i1 i2 hm2 FW hll
      go_wp2_with (first
        | (go_at_call 12; (with_reducible refine HI.out.mono ?_); rintro e w3 ⟨rfl, hF3⟩; have hB1 := ((MM.Row.new wo 33 [.int .u8 kd, .int .i64 at_, .int .i64 nn, .int .i64 aa, .string ss, .slice none 0 0, .int .u64 ww, .slice L1 m e1]).alloc (.cells #[.int .u8 kd, .int .i64 at_, .int .i64 nn, .int .i64 aa, .string ss, .slice none 0 0, .int .u64 ww, .slice L2 m e2] 33)).far hF3 (by simp); have hB2 := (row_new (w := wo.alloc (.cells #[.int .u8 kd, .int .i64 at_, .int .i64 nn, .int .i64 aa, .string ss, .slice none 0 0, .int .u64 ww, .slice L1 m e1] 33)) 33 [.int .u8 kd, .int .i64 at_, .int .i64 nn, .int .i64 aa, .string ss, .slice none 0 0, .int .u64 ww, .slice L2 m e2] (sz_alloc _ _)).far hF3 (by simp); have x5 := hB1.at (i := 5) rfl; have y5 := hB2.at (i := 5) rfl; have HF3 := Lib.hid (HFW.out.trans hF3 (by simp)); have HB1 := Lib.hid hB1; have HB2 := Lib.hid hB2; clear hF3 hB1 hB2))
      clear x5 y5
      go_loopg [8] 0 (fun g i wz => i = .int .i64 ((0 : Nat) : Int) ∧ Hid (MM.Far [] w3 wz))
      case atStart => exact ⟨rfl, Lib.hid (MM.Far.refl [] w3)⟩
      case round =>
        obtain ⟨rfl, hE⟩ := hrel
        obtain ⟨wz, rfl⟩ : ∃ wz, wz = wr := ⟨_, rfl⟩
        have x5 := far_cell hE.out (HB1.out.at (i := 5) rfl)
        have y5 := far_cell hE.out (HB2.out.at (i := 5) rfl)
        go_wp2
        go_roundg (n - (k + 1))
        case rel => exact ⟨k + 1, by omega, by go_num, Lib.hid ((hD.out.trans HF3.out (by simp)).trans hE.out (by simp))⟩
        case measure => omega
    · obtain rfl : k = n := by omega
      go_wp2
      go_ret
      exact ⟨rfl, hD.out⟩
end SM
end Go.Proofs.YtedbaegdmianaaaDoor
namespace Go.Proofs.YtedbaegdmianaaaDoor
open Go.RowKit
set_option linter.unusedVariables false
namespace SM
open LX SX RW6 EX SC
open EW (Sl Bx ptr num strs sz_alloc row_new)
open RX (Nd)
open RM6 (Kin)
def shownB : ByteArray := ⟨#[40, 108, 97, 109, 98, 100, 97, 32, 40, 120, 41, 32, 40, 43, 32, 120, 32, 49, 41, 41]⟩
def shownR : List Rf := [⟨11, 15, 0, 0, emp, 0, []⟩, ⟨13, 17, 0, 0, emp, 8, []⟩, ⟨12, 12, 1, 0, emp, 0, [0, 1]⟩, ⟨6, 0, 1, 0, emp, 0, [2]⟩]
theorem shown_of : ofS shownB = .ok ([], shownR, [3]) := by kernel_rfl
theorem rfr_row {w : World} {b : Nat} (rs : List (Rf × Value)) (hR : MM.Row w b 33 (rfC rs)) (hL : ∀ x ∈ rs, ∃ LA lc, x.2 = .slice LA x.1.l.length lc ∧ IntRow w LA x.1.l) : RfR w (some ⟨b, 0, none⟩) (rs.map (·.1)) := by
  intro k hk
  have hk2 : k < rs.length := by simpa using hk
  obtain ⟨LA, lc, el, hl⟩ := hL rs[k] (List.getElem_mem hk2)
  have c (j : Nat) (hj : j < 8) (u : Value) (hu : (rfL rs[k])[j]? = some u) : w.cell? ⟨b, 0 + k * 8 + j, none⟩ = some u := by
    rw [Nat.zero_add]
    exact hR.at ((rfC_at rs k hk2 j hj).trans hu)
  have em : (rs.map (·.1))[k] = rs[k].1 := by simp
  rw [em]
  exact ⟨b, 0, LA, lc, rfl, hR.lt, c 0 (by omega) _ rfl, c 1 (by omega) _ rfl, c 2 (by omega) _ rfl, c 3 (by omega) _ rfl, c 4 (by omega) _ rfl, c 5 (by omega) _ rfl, c 6 (by omega) _ rfl, (c 7 (by omega) _ rfl).trans (congrArg some el), hl⟩
def n0 : Value := .slice none 0 0
def shownC (h : Nat) : List (Rf × Value) := [(⟨11, 15, 0, 0, emp, 0, []⟩, n0), (⟨13, 17, 0, 0, emp, 8, []⟩, n0), (⟨12, 12, 1, 0, emp, 0, [0, 1]⟩, .slice (some ⟨h, 0, none⟩) 2 2), (⟨6, 0, 1, 0, emp, 0, [2]⟩, .slice (some ⟨h + 1, 0, none⟩) 1 1)]
theorem shown_rf (w : World) : RfR (((w.alloc (.cells (ints [0, 1]).toArray 3)).alloc (.cells (ints [2]).toArray 3)).alloc (.cells (rfC (shownC w.heap.size)).toArray 33)) (some ⟨w.heap.size + 1 + 1, 0, none⟩) shownR := by
  have hR := row_new (w := (w.alloc (.cells (ints [0, 1]).toArray 3)).alloc (.cells (ints [2]).toArray 3)) 33 (rfC (shownC w.heap.size)) (by rw [sz_alloc, sz_alloc])
  have h12 := introw_new w _ [0, 1] (((MM.Far.refl [] (w.alloc (.cells (ints [0, 1]).toArray 3))).alloc (.cells (ints [2]).toArray 3)).alloc (.cells (rfC (shownC w.heap.size)).toArray 33))
  have h03 := introw_new (w.alloc (.cells (ints [0, 1]).toArray 3)) _ [2] ((MM.Far.refl [] ((w.alloc (.cells (ints [0, 1]).toArray 3)).alloc (.cells (ints [2]).toArray 3))).alloc (.cells (rfC (shownC w.heap.size)).toArray 33))
  rw [sz_alloc] at h03
  refine rfr_row _ hR (fun x hx => ?_)
  simp only [shownC, List.mem_cons, List.not_mem_nil, or_false] at hx
  rcases hx with rfl | rfl | rfl | rfl
  · exact ⟨none, 0, rfl, introw_nil _ _⟩
  · exact ⟨none, 0, rfl, introw_nil _ _⟩
  · exact ⟨_, 2, rfl, h12⟩
  · exact ⟨_, 1, rfl, h03⟩
set_option maxRecDepth 20000 in
set_option maxHeartbeats 4000000 in
theorem shown_any (w : World) (hPT : PT w) : Calls Tryd.prog 8 #[] w fun e w' => e = .returned (.bool true) ∧ MM.Far [] w w' := by
  have HOF := Lib.hid (of_any shownB (show (20 : Nat) ≤ 1000 by omega) w hPT)
  rw [shown_of] at HOF
  unfold shownB at HOF
  have HSR := Lib.hid shown_rf
  clear hPT
  go_enter Tryd.func8, Tryd.ntmps8
  go_wp2_with (first
    | (go_at_call 9; (with_reducible refine HOF.out.mono ?_); rintro e w1 ⟨fv, tv, rs, g, rfl, hF1, hN1, hg1, hrs, hrow, hkin⟩; have hFR := rf_rows hrow hkin; have hTR := tops_row hkin; obtain ⟨FA, fc, rfl, -, -, -, hF⟩ := hFR; obtain ⟨TA, tc, rfl, -, -, -, hT⟩ := hTR; have HRL : Hid (rs.length = 4) := Lib.hid (by have := congrArg List.length hrs; simpa [shownR] using this); rw [hrs] at hF; have HFM := Lib.hid hF; have HTP := Lib.hid hT; have HF1 := Lib.hid hF1; clear hrow hkin hrs hF hT hF1 hN1 hg1)
    | (go_at_call 12; (refine (ints_call (l := [3]) (n := 1) rfl (by omega) (HTP.out.far ((MM.Far.refl [] w1).alloc _)) (introw_new w1 _ [3] (MM.Far.refl [] _))).mono ?_); rintro e w4 ⟨rfl, hF4⟩; have HF4 := Lib.hid ((MM.Far.refl [] w1).alloc _ |>.trans hF4 (by simp)); clear hF4)
    | (go_at_call 13; rw [HRL.out]; (refine (rsame_yes shownR 4 rfl (by omega) (fun x hx => by unfold shownR at hx; simp only [List.mem_cons, List.not_mem_nil, or_false] at hx; rcases hx with rfl | rfl | rfl | rfl <;> simp) FA _ fc 4 _ (HFM.out.far (((HF4.out.alloc _).alloc _).alloc _)) (HSR.out w4)).mono ?_); rintro e w5 ⟨rfl, hF5⟩; have HF5 := Lib.hid (((((MM.Far.refl [] w4).alloc _).alloc _).alloc _).trans hF5 (by simp)); clear hF5))
  go_ret
  exact ⟨rfl, (HF1.out.trans HF4.out (by simp)).trans HF5.out (by simp)⟩
end SM
end Go.Proofs.YtedbaegdmianaaaDoor
namespace Go.Proofs.YtedbaegdmianaaaDoor
open Go.RowKit
set_option linter.unusedVariables false
namespace SM
open LX SX RW6 EX SC
open EW (Sl Bx ptr num strs sz_alloc row_new)
open RX (Nd)
open RM6 (Kin)
theorem u8_of9 {x : Int} (h : (Lit.int .u8 x).wf = true) : 0 ≤ x ∧ x ≤ 255 := by
  simp [Lit.wf, IntKind.min, IntKind.max, IntKind.signed, IntKind.bits] at h
  omega
theorem chk_c {s : ByteArray} {n : Nat} (h : chkS s n = true) : (callB s n).size ≤ 1000 ∧ (lamcB s n).size ≤ 1000 ∧ (∃ r, ofS (lamcB s n) = .ok r ∧ r.2.1.length = n + 3 ∧ (r.2.1.getD (n + 1) ⟨0, 0, 0, 0, emp, 0, []⟩).kind = 10) ∧
    ((∃ x, ofS (callB s n) = .error x ∧ n ≠ primK s ∧ x.1 = 0 ∧ x.2.1 = 90) ∨ (∃ r, ofS (callB s n) = .ok r ∧ n = primK s ∧ r.2.1.length = n + 1 ∧ (r.2.1.getD n ⟨0, 0, 0, 0, emp, 0, []⟩).kind = 12 ∧ (r.2.1.getD n ⟨0, 0, 0, 0, emp, 0, []⟩).n = (primO s : Nat))) := by
  unfold chkS at h
  simp only [Bool.and_eq_true, decide_eq_true_eq] at h
  obtain ⟨⟨⟨h1, h2⟩, h3⟩, h4⟩ := h
  refine ⟨by omega, by omega, ?_, ?_⟩
  · unfold chkL at h2
    cases hL : ofS (lamcB s n) with
    | error x => rw [hL] at h2; cases h2
    | ok r =>
      rw [hL] at h2
      simp only [Bool.and_eq_true, decide_eq_true_eq] at h2
      exact ⟨r, rfl, h2.1, h2.2⟩
  · unfold chkC at h1
    cases hL : ofS (callB s n) with
    | error x =>
      rw [hL] at h1
      simp only [Bool.and_eq_true, decide_eq_true_eq] at h1
      exact .inl ⟨x, rfl, h1.1.1, h1.1.2, h1.2⟩
    | ok r =>
      rw [hL] at h1
      simp only [Bool.and_eq_true, decide_eq_true_eq] at h1
      exact .inr ⟨r, rfl, h1.1.1.1, h1.1.1.2, h1.1.2, h1.2⟩
theorem prim_lit : ∀ i, i < 30 → primO (primAt i) = i + 1 ∧ isPrim (primAt i) = true ∧ (primAt i).size ≤ 100 := by decide +kernel
theorem args_size : ∀ j, j < 5 → (argsB j).size ≤ 100 := by decide +kernel
theorem rf_at {w : World} {A : Option Addr} {rs : List Rf} (h : RfR w A rs) (k : Nat) (hk : k < rs.length) : ∃ b o, A = some ⟨b, o, none⟩ ∧ w.cell? ⟨b, o + k * 8, none⟩ = some (.int .u8 (rs.getD k ⟨0, 0, 0, 0, emp, 0, []⟩).kind) ∧ w.cell? ⟨b, o + k * 8 + 2, none⟩ = some (.int .i64 (rs.getD k ⟨0, 0, 0, 0, emp, 0, []⟩).n) := by
  obtain ⟨b, o, LA, lc, e, hb, c0, c1, c2, _⟩ := h k hk
  have e2 : rs.getD k ⟨0, 0, 0, 0, emp, 0, []⟩ = rs[k] := by rw [List.getD_eq_getElem?_getD, List.getElem?_eq_getElem hk]; rfl
  exact ⟨b, o, e, by rw [e2]; exact c0, by rw [e2]; exact c2⟩
set_option maxRecDepth 20000 in
set_option maxHeartbeats 8000000 in
theorem prims_any (a b : Int) (w : World) (ua : (Lit.int .u8 a).wf = true) (ub : (Lit.int .u8 b).wf = true) (hPT : PT w) : Calls Tryd.prog 7 #[.int .u8 a, .int .u8 b] w fun e w' => e = .returned (.bool true) ∧ Below w.heap.size w w' := by
  have HPT := Lib.hid hPT
  obtain ⟨a0, a1⟩ := u8_of9 ua
  obtain ⟨b0, b1⟩ := u8_of9 ub
  obtain ⟨i, hi⟩ : ∃ i : Nat, a % 30 = i := ⟨(a % 30).toNat, by omega⟩
  obtain ⟨n, hn⟩ : ∃ n : Nat, b % 5 = n := ⟨(b % 5).toNat, by omega⟩
  have hi30 : i < 30 := by omega
  have hn5 : n < 5 := by omega
  have hchk := chk_c (chk_all i hi30 n hn5)
  obtain ⟨hpo, hip, hss⟩ := prim_lit i hi30
  clear hPT ua ub
  go_enter Tryd.func7, Tryd.ntmps7
  go_upto_region 3 with (first
    | (go_at_call 8; (with_reducible refine (shown_any _ HPT.out).mono ?_); rintro e w0 ⟨rfl, hF0⟩; have HF0 := Lib.hid hF0; clear hF0))
  show Code.wp _ _ _ _ (w0.alloc (.cells (primN.map Value.string).toArray 9))
  have hrow := MM.Row.new w0 9 (primN.map Value.string)
  have hc := hrow.at (i := i) (v := .string (primAt i)) (by
    rw [List.getElem?_map, List.getElem?_eq_getElem (show i < primN.length from hi30)]
    unfold primAt
    rw [List.getD_eq_getElem?_getD, List.getElem?_eq_getElem (show i < primN.length from hi30)]; rfl)
  have HFW := Lib.hid (HF0.out.alloc (.cells (primN.map Value.string).toArray 9))
  generalize w0.alloc (.cells (primN.map Value.string).toArray 9) = W at *
  clear hrow
  have HCHK := Lib.hid hchk
  have HPO := Lib.hid (And.intro hpo hip)
  clear hchk hpo hip
  generalize primAt i = s at *
  generalize w0.heap.size = b9 at *
  go_wp2_with (fail)
  clear hc
  go_loopw [9, 37] (fun s9 s37 wr => ∃ j : Nat, j ≤ n ∧ s37 = .int .i64 (j : Int) ∧ ∃ z, s9 = .string z ∧ Hid (z = argsB j ∧ wr = W)) (fun _ s37 _ => n - (intOf s37).toNat)
  case atStart => exact ⟨0, by omega, rfl, _, rfl, Lib.hid ⟨rfl, rfl⟩⟩
  case round =>
    obtain ⟨j, hj, rfl, z, rfl, hH⟩ := hrel
    have hzs : z.size ≤ 100 := by rw [hH.out.1]; exact args_size j (by omega)
    by_cases hlt : j < n
    · go_wp2
      go_roundw
      case rel => exact ⟨j + 1, by omega, by go_num, _, rfl, Lib.hid ⟨by rw [hH.out.1]; rfl, hH.out.2⟩⟩
      case measure => simp [intOf]; omega
    · obtain rfl : j = n := by omega
      obtain ⟨hz, hwr⟩ := hH.out
      subst hz hwr
      clear hH
      obtain ⟨hs1, hs2, ⟨rL, hL1, hL2, hL3⟩, hC⟩ := HCHK.out
      have HPR := Lib.hid (fun (wx : World) (f : MM.Far [] wr wx) => prim_any ((HPT.out.far HFW.out).far f) s)
      rw [HPO.out.1, HPO.out.2] at HPR
      have HO2 := Lib.hid (fun (wx : World) (f : MM.Far [] wr wx) => of_any (lamcB s j) hs2 wx ((HPT.out.far HFW.out).far f))
      have HO1 := Lib.hid (fun (wx : World) (f : MM.Far [] wr wx) => of_any (callB s j) hs1 wx ((HPT.out.far HFW.out).far f))
      rw [hL1] at HO2
      unfold lamcB lamB midB endB at HO2
      have hpi : ((i + 1 : Nat) : Int) = (i : Int) + 1 := by omega
      unfold num at HPR
      rw [hpi] at HPR
      rcases hC with ⟨x, hX, hne, hx1, hx2⟩ | ⟨r, hX, hek, hr1, hr2, hr3⟩
      · rw [hX] at HO1
        unfold callB opB clB at HO1
        have hkb : ((j : Int) != (primK s : Int)) = true := by rw [bne_iff_ne]; omega
        generalize primK s = pk at *
        obtain ⟨xa, xe, xn⟩ := x
        simp only at hx1 hx2
        subst hx1 hx2
        have hj3 : ((j + 3 : Nat) : Int) = (j : Int) + 3 := by omega
        clear hX hne HPO HCHK hL1
        go_wp2_with (first
          | (go_at_call 11; (with_reducible refine (HPR.out _ (MM.Far.refl _ _)).mono ?_); rintro e w3 ⟨rfl, hF3⟩; have HF3 := Lib.hid hF3; clear hF3)
          | (go_at_call 9; (with_reducible refine (HO1.out _ HF3.out).mono ?_); rintro e w4 ⟨g4, rfl, hF4, hN4, hg4⟩; unfold num; have HF4 := Lib.hid (HF3.out.trans hF4 (by simp)); clear hF4 hN4 hg4)
          | (go_at_call 9; (with_reducible refine (HO2.out _ HF4.out).mono ?_); rintro e w5 ⟨fv, tv, rs, g, rfl, hF5, hN5, hg5, hrs5, hrow5, hkin5⟩; obtain ⟨FA, fc, rfl, -, -, -, hFR⟩ := rf_rows hrow5 hkin5; have hRL : rs.length = j + 3 := (by have := congrArg List.length hrs5; simpa [hL2] using this); rw [hRL]; rw [hrs5] at hFR; obtain ⟨qb, qo, rfl, q0, q2⟩ := rf_at hFR (j + 1) (by omega); rw [hL3] at q0; have HF5 := Lib.hid (HF4.out.trans hF5 (by simp)); clear hrow5 hkin5 hrs5 hFR hN5 hg5 hF5 q2 hRL))
        go_ret
        exact ⟨rfl, (HFW.out.trans HF5.out (by simp)).below_nil⟩
      · rw [hX] at HO1
        unfold callB opB clB at HO1
        rw [HPO.out.1, hpi] at hr3
        rw [← hek] at HPR
        have hj3 : ((j + 3 : Nat) : Int) = (j : Int) + 3 := by omega
        have hj1 : ((j + 1 : Nat) : Int) = (j : Int) + 1 := by omega
        clear hX hek HPO HCHK hL1
        go_wp2_with (first
          | (go_at_call 11; (with_reducible refine (HPR.out _ (MM.Far.refl _ _)).mono ?_); rintro e w3 ⟨rfl, hF3⟩; have HF3 := Lib.hid hF3; clear hF3)
          | (go_at_call 9; (with_reducible refine (HO1.out _ HF3.out).mono ?_); rintro e w4 ⟨fv4, tv4, rs4, g4, rfl, hF4, hN4, hg4, hrs4, hrow4, hkin4⟩; obtain ⟨FA4, fc4, rfl, -, -, -, hFR4⟩ := rf_rows hrow4 hkin4; have hRL4 : rs4.length = j + 1 := (by have := congrArg List.length hrs4; simpa [hr1] using this); rw [hRL4]; rw [hrs4] at hFR4; obtain ⟨pb, po, rfl, p0, p2⟩ := rf_at hFR4 j (by omega); rw [hr2] at p0; rw [hr3] at p2; have HF4 := Lib.hid (HF3.out.trans hF4 (by simp)); clear hrow4 hkin4 hrs4 hFR4 hN4 hg4 hF4 hRL4)
          | (go_at_call 9; (with_reducible refine (HO2.out _ HF4.out).mono ?_); rintro e w5 ⟨fv, tv, rs, g, rfl, hF5, hN5, hg5, hrs5, hrow5, hkin5⟩; obtain ⟨FA, fc, rfl, -, -, -, hFR⟩ := rf_rows hrow5 hkin5; have hRL : rs.length = j + 3 := (by have := congrArg List.length hrs5; simpa [hL2] using this); rw [hRL]; rw [hrs5] at hFR; obtain ⟨qb, qo, rfl, q0, q2⟩ := rf_at hFR (j + 1) (by omega); rw [hL3] at q0; have p0' := far_cell hF5 p0; have p2' := far_cell hF5 p2; have HF5 := Lib.hid (HF4.out.trans hF5 (by simp)); clear hrow5 hkin5 hrs5 hFR hN5 hg5 hF5 q2 hRL p0 p2))
        go_ret
        exact ⟨rfl, (HFW.out.trans HF5.out (by simp)).below_nil⟩
end SM
end Go.Proofs.YtedbaegdmianaaaDoor
