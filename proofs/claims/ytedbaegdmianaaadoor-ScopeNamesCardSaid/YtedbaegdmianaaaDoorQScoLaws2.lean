/-
  The walk of ScopeNames: a program of one function is resolved alike, whichever name it has. Conditions: the arguments' readings; the primitives' table.
-/
import Derived.Test.YtedbaegdmianaaaDoorQScoLaws1
import Derived.Test.YtedbaegdmianaaaDoorQScoNmP
import Derived.Test.YtedbaegdmianaaaDoorQScoNmM
namespace Go.Proofs.YtedbaegdmianaaaDoor
open Go.RowKit
set_option linter.unusedVariables false
namespace SM
open LX SX RW6 EX SC
open EW (Sl Bx ptr num strs sz_alloc row_new)
open RX (Nd)
open RM6 (Kin)
theorem u8_of8 {x : Int} (h : (Lit.int .u8 x).wf = true) : 0 ≤ x ∧ x ≤ 255 := by
  simp [Lit.wf, IntKind.min, IntKind.max, IntKind.signed, IntKind.bits] at h
  omega
theorem chk_n {i : Nat} (h : chkN i = true) : (fnB (nmAt i)).size ≤ 1000 ∧ (dfB (nmAt i)).size ≤ 1000 ∧ (nmAt i).size ≤ 100 ∧
    (∃ r, ofS (fnB (nmAt i)) = .ok r ∧ r.2.1.map noAt = base8.1 ∧ r.2.2 = base8.2 ∧ ∀ x ∈ r.2.1, x.l.length ≤ 100) ∧
    (∃ x, ofS (nmAt i) = .error x ∧ x.1 = 0 ∧ x.2.1 = if isPrim (nmAt i) = true then 90 else 91) ∧
    ((isPrim (nmAt i) = true ∧ ∃ x, ofS (dfB (nmAt i)) = .error x ∧ x.2.1 ≠ 0) ∨ (isPrim (nmAt i) = false ∧ ∃ r, ofS (dfB (nmAt i)) = .ok r)) := by
  unfold chkN at h
  simp only [Bool.and_eq_true, decide_eq_true_eq] at h
  obtain ⟨⟨⟨⟨⟨h1, h2⟩, h3⟩, h4⟩, h5⟩, h6⟩ := h
  refine ⟨by omega, by omega, h6, ?_, ?_, ?_⟩
  · cases hL : ofS (fnB (nmAt i)) with
    | error x => rw [hL] at h1; cases h1
    | ok r =>
      rw [hL] at h1
      simp only [Bool.and_eq_true, decide_eq_true_eq] at h1
      exact ⟨r, rfl, h1.1.1, h1.1.2, h1.2⟩
  · cases hL : ofS (nmAt i) with
    | error x =>
      rw [hL] at h2
      simp only [Bool.and_eq_true, decide_eq_true_eq] at h2
      exact ⟨x, rfl, h2.1, h2.2⟩
    | ok r => rw [hL] at h2; cases h2
  · cases hL : ofS (dfB (nmAt i)) with
    | error x =>
      rw [hL] at h3
      simp only [Bool.and_eq_true, decide_eq_true_eq] at h3
      exact .inl ⟨h3.1, x, rfl, h3.2⟩
    | ok r =>
      rw [hL] at h3
      simp only [Bool.not_eq_true'] at h3
      exact .inr ⟨h3, r, rfl⟩
/-- A row of one form, its beginning struck out. -/
theorem rf_struck {w : World} {b : Nat} {f : Rf} {LA : Option Addr} {lc : Nat} (hR : MM.Row w b 33 (rfL (noAt f, .slice LA f.l.length lc))) (hI : IntRow w LA f.l) : RfR w (some ⟨b, 0, none⟩) [noAt f] :=
  rfr_row [(noAt f, .slice LA f.l.length lc)] (by simpa [rfC] using hR) (fun x hx => by
    rw [List.mem_singleton.1 hx]
    exact ⟨LA, lc, rfl, hI⟩)
set_option maxRecDepth 20000 in
set_option maxHeartbeats 8000000 in
theorem names_any (a b : Int) (w : World) (ua : (Lit.int .u8 a).wf = true) (ub : (Lit.int .u8 b).wf = true) (hPT : PT w) : Calls Tryd.prog 4 #[.int .u8 a, .int .u8 b] w fun e w' => e = .returned (.bool true) ∧ Below w.heap.size w w' := by
  have HPT := Lib.hid hPT
  obtain ⟨a0, a1⟩ := u8_of8 ua
  obtain ⟨b0, b1⟩ := u8_of8 ub
  obtain ⟨i, hi⟩ : ∃ i : Nat, a % 8 = i := ⟨(a % 8).toNat, by omega⟩
  obtain ⟨j, hj⟩ : ∃ j : Nat, b % 8 = j := ⟨(b % 8).toNat, by omega⟩
  have hi8 : i < 8 := by omega
  have hj8 : j < 8 := by omega
  obtain ⟨si1, si2, si3, ⟨rA, hA1, hA2, hA3, hA4⟩, ⟨xB, hB1, hB2, hB3⟩, hC⟩ := chk_n (chkN_all i hi8)
  obtain ⟨sj1, sj2, sj3, ⟨rM, hM1, hM2, hM3, hM4⟩, -, -⟩ := chk_n (chkN_all j hj8)
  clear hPT ua ub
  go_enter Tryd.func4, Tryd.ntmps4
  go_upto_region 3 with (first
    | (go_at_call 8; (with_reducible refine (shown_any _ HPT.out).mono ?_); rintro e w0 ⟨rfl, hF0⟩; have HF0 := Lib.hid hF0; clear hF0))
  show Code.wp _ _ _ _ (w0.alloc (.cells (nm8.map Value.string).toArray 9))
  have hrow := MM.Row.new w0 9 (nm8.map Value.string)
  have hci := hrow.at (i := i) (v := .string (nmAt i)) (by
    rw [List.getElem?_map, List.getElem?_eq_getElem (show i < nm8.length from hi8)]
    unfold nmAt
    rw [List.getD_eq_getElem?_getD, List.getElem?_eq_getElem (show i < nm8.length from hi8)]; rfl)
  have hcj := hrow.at (i := j) (v := .string (nmAt j)) (by
    rw [List.getElem?_map, List.getElem?_eq_getElem (show j < nm8.length from hj8)]
    unfold nmAt
    rw [List.getD_eq_getElem?_getD, List.getElem?_eq_getElem (show j < nm8.length from hj8)]; rfl)
  have HFW := Lib.hid (HF0.out.alloc (.cells (nm8.map Value.string).toArray 9))
  generalize w0.alloc (.cells (nm8.map Value.string).toArray 9) = W at *
  clear hrow
  generalize w0.heap.size = b9 at *
  have HPR := Lib.hid (fun (wx : World) (f : MM.Far [] W wx) => prim_any ((HPT.out.far HFW.out).far f) (nmAt i))
  have HOA := Lib.hid (fun (wx : World) (f : MM.Far [] W wx) => of_any (fnB (nmAt i)) si1 wx ((HPT.out.far HFW.out).far f))
  have HOM := Lib.hid (fun (wx : World) (f : MM.Far [] W wx) => of_any (fnB (nmAt j)) sj1 wx ((HPT.out.far HFW.out).far f))
  have HOB := Lib.hid (fun (wx : World) (f : MM.Far [] W wx) => of_any (nmAt i) (by omega) wx ((HPT.out.far HFW.out).far f))
  have HOC : Hid (∀ (wx : World), MM.Far [] W wx → Calls Tryd.prog 9 #[.string (dfB (nmAt i))] wx fun e w' => ∃ v1 v2 v3 he v5, e = .returned (.tuple #[v1, v2, v3, .int .i64 he, v5]) ∧ (he == 0) = !isPrim (nmAt i) ∧ MM.Far [] wx w') := Lib.hid (fun wx f => by
    have h := of_any (dfB (nmAt i)) si2 wx ((HPT.out.far HFW.out).far f)
    rcases hC with ⟨c1, x, c2, c3⟩ | ⟨c1, r, c2⟩
    · rw [c2] at h
      refine h.mono ?_
      rintro e w' ⟨g, rfl, hF, _⟩
      exact ⟨_, _, _, _, _, rfl, by rw [c1]; simpa using c3, hF⟩
    · rw [c2] at h
      refine h.mono ?_
      rintro e w' ⟨fv, tv, rs, g, rfl, hF, _⟩
      exact ⟨_, _, _, _, _, rfl, by rw [c1]; rfl, hF⟩)
  rw [hA1] at HOA
  rw [hM1] at HOM
  rw [hB1] at HOB
  unfold fnB n1B n2B n3B n4B n5B at HOA HOM
  unfold dfB n6B n7B at HOC
  have HB := Lib.hid (And.intro hB2 hB3)
  have HAM := Lib.hid (And.intro (And.intro hA2 (And.intro hA3 hA4)) (And.intro hM2 (And.intro hM3 hM4)))
  clear hA1 hA2 hA3 hA4 hM1 hM2 hM3 hM4 hB1 hB2 hB3 hC si1 si2 sj1 sj2
  generalize nmAt i = s at *
  generalize nmAt j = t at *
  go_quiet (fail)
  go_wp2_with (first
    | (go_at_call 9; (with_reducible refine (HOA.out _ ((MM.Far.refl [] W).drewN _)).mono ?_); rintro e w1 ⟨fv1, tv1, rs1, g1, rfl, hF1, hN1, hg1, hrs1, hrow1, hkin1⟩; have HF1 := Lib.hid (((MM.Far.refl [] W).drewN _).trans hF1 (by simp)); have HR1 := Lib.hid (And.intro hrs1 (And.intro hrow1 hkin1)); clear hF1 hN1 hg1 hrs1 hrow1 hkin1)
    | (go_at_call 9; (with_reducible refine (HOM.out _ HF1.out).mono ?_); rintro e w2 ⟨fv2, tv2, rs2, g2, rfl, hF2, hN2, hg2, hrs2, hrow2, hkin2⟩; have HF12 := Lib.hid hF2; have HF2 := Lib.hid (HF1.out.trans hF2 (by simp)); have HR2 := Lib.hid (And.intro hrs2 (And.intro hrow2 hkin2)); clear hF2 hN2 hg2 hrs2 hrow2 hkin2))
  obtain ⟨FA1, fc1, rfl, -, -, -, hFR1⟩ := rf_rows HR1.out.2.1 HR1.out.2.2
  obtain ⟨TA1, tc1, rfl, -, -, -, hT1⟩ := tops_row HR1.out.2.2
  obtain ⟨FA2, fc2, rfl, -, -, -, hFR2⟩ := rf_rows HR2.out.2.1 HR2.out.2.2
  obtain ⟨TA2, tc2, rfl, -, -, -, hT2⟩ := tops_row HR2.out.2.2
  have hl1 : rs1.length = 11 := by
    have h1 := congrArg List.length HR1.out.1
    have h2 := congrArg List.length HAM.out.1.1
    have h3 := base8_len.1
    simp only [List.length_map] at h1 h2
    omega
  have hl2 : rs2.length = 11 := by
    have h1 := congrArg List.length HR2.out.1
    have h2 := congrArg List.length HAM.out.2.1
    have h3 := base8_len.1
    simp only [List.length_map] at h1 h2
    omega
  rw [HR1.out.1] at hFR1
  rw [HR2.out.1] at hFR2
  rw [HAM.out.1.2.1] at hT1 ⊢
  rw [HAM.out.2.2.1] at hT2 ⊢
  rw [base8_len.2, hl1, hl2]
  have HFR1 := Lib.hid (hFR1.far HF12.out)
  have HFR2 := Lib.hid hFR2
  have HT1 := Lib.hid (hT1.far HF12.out)
  have HT2 := Lib.hid hT2
  clear hFR1 hFR2 hT1 hT2 HR1 HR2 hl1 hl2 hci hcj
  obtain ⟨xa, xe, xn⟩ := xB
  have hxa := HB.out.1
  have hxe := HB.out.2
  simp only at hxa hxe
  subst hxa hxe
  clear HB
  obtain ⟨lang, hlang⟩ : ∃ lang, isPrim s = lang := ⟨_, rfl⟩
  rw [hlang] at HPR HOC HOB
  cases lang
  all_goals
    go_wp2_with (first
      | (go_at_call 9; (with_reducible refine (HOB.out _ HF2.out).mono ?_); rintro e w3 ⟨g3, rfl, hF3, hN3, hg3⟩; unfold num; have HF23 := Lib.hid hF3; have HF3 := Lib.hid (HF2.out.trans hF3 (by simp)); clear hF3 hN3 hg3)
      | (go_at_call 9; (with_reducible refine (HOC.out _ HF3.out).mono ?_); rintro e w4 ⟨v1, v2, v3, he, v5, rfl, hhe, hF4⟩; have HF24 := Lib.hid (HF23.out.trans hF4 (by simp)); have HF4 := Lib.hid (HF3.out.trans hF4 (by simp)); clear hF4)
      | (go_at_call 11; (with_reducible refine (HPR.out _ HF4.out).mono ?_); rintro e w5 ⟨rfl, hF5⟩; have HF25 := Lib.hid (HF24.out.trans hF5 (by simp)); have HF5 := Lib.hid (HF4.out.trans hF5 (by simp)); clear hF5; obtain ⟨m1, m2, r1, r2, r3, hFm⟩ := errs_map w5 (isPrim s); rw [hlang] at r3; have hmm := @run_makeMap Tryd.prog; have HFm := Lib.hid hFm; clear hFm)
      | (go_at_call 12; (refine (ints_call (l := base8.2) (n := 2) base8_len.2 (by omega) (HT1.out.far (HF25.out.trans HFm.out (by simp))) (HT2.out.far (HF25.out.trans HFm.out (by simp)))).mono ?_); rintro e w6 ⟨rfl, hF6⟩; have HF26 := Lib.hid ((HF25.out.trans HFm.out (by simp)).trans hF6 (by simp)); clear hF6))
    clear HOA HOM HOB HOC HPR HPT
    go_loopw [135] (fun s135 wr => ∃ k : Nat, k ≤ 11 ∧ s135 = .int .i64 (k : Int) ∧ Hid (MM.Far [] w2 wr)) (fun s135 _ => 11 - (intOf s135).toNat)
    case atStart => exact ⟨0, by omega, rfl, HF26⟩
    case round =>
      obtain ⟨k, hk, rfl, hH⟩ := hrel
      by_cases hlt : k < 11
      · have hk1 : k < rA.2.1.length := by
          have h2 := congrArg List.length HAM.out.1.1
          have h3 := base8_len.1
          simp only [List.length_map] at h2
          omega
        have hk2 : k < rM.2.1.length := by
          have h2 := congrArg List.length HAM.out.2.1
          have h3 := base8_len.1
          simp only [List.length_map] at h2
          omega
        have hno : noAt rA.2.1[k] = noAt rM.2.1[k] := by
          have h2 := HAM.out.1.1.trans HAM.out.2.1.symm
          have h3 := congrArg (·[k]?) h2
          simpa [List.getElem?_eq_getElem hk1, List.getElem?_eq_getElem hk2] using h3
        have hll := HAM.out.1.2.2 _ (List.getElem_mem hk1)
        obtain ⟨q1, o1, L1, e1, rfl, hb1, c0, c1, c2, c3, c4, c5, c6, c7, i1⟩ := HFR1.out.far hH.out k hk1
        obtain ⟨q2, o2, L2, e2, rfl, hb2, d0, d1, d2, d3, d4, d5, d6, d7, i2⟩ := HFR2.out.far hH.out k hk2
        generalize rA.2.1[k] = f1 at *
        generalize rM.2.1[k] = f2 at *
        obtain ⟨kd, at1, nn, aa, ss, ww, l⟩ := f1
        obtain ⟨kd', at2, nn', aa', ss', ww', l'⟩ := f2
        simp only [noAt, Rf.mk.injEq, true_and] at hno
        obtain ⟨rfl, rfl, rfl, rfl, rfl, rfl⟩ := hno
        simp only at c0 c1 c2 c3 c4 c5 c6 c7 d0 d1 d2 d3 d4 d5 d6 d7 i1 i2 hll
        obtain ⟨m, hm2⟩ : ∃ m, l.length = m := ⟨_, rfl⟩
        rw [hm2] at c7 d7 hll
        have HI := Lib.hid (And.intro i1 (And.intro i2 hm2))
        clear i1 i2 hm2 hk1 hk2
        go_upto_region 15 with (fail)
        go_cut [34, 35] (fun s34 s35 wx => ∃ hx hy : Nat, s34 = ptr hx ∧ s35 = ptr hy ∧ Hid (¬ hx = hy) ∧ Hid (MM.Row wx hx 33 [.int .u8 kd, .int .i64 at1, .int .i64 nn, .int .i64 aa, .string ss, .slice none 0 0, .int .u64 ww, .slice L1 m e1]) ∧ Hid (MM.Row wx hy 33 [.int .u8 kd, .int .i64 at2, .int .i64 nn, .int .i64 aa, .string ss, .slice none 0 0, .int .u64 ww, .slice L2 m e2]) ∧ Hid (MM.Far [] wr wx) ∧ Hid (wr.heap.size ≤ hx ∧ wr.heap.size ≤ hy))
        case first =>
          go_region
          all_goals
            go_wp2_with (fail)
            go_meet
            first
              | exact ⟨wr.heap.size + 1, wr.heap.size, rfl, rfl, Lib.hid (by omega), Lib.hid (row_new (w := wr.alloc (.cells #[.int .u8 kd, .int .i64 at2, .int .i64 nn, .int .i64 aa, .string ss, .slice none 0 0, .int .u64 ww, .slice L2 m e2] 33)) 33 [.int .u8 kd, .int .i64 at1, .int .i64 nn, .int .i64 aa, .string ss, .slice none 0 0, .int .u64 ww, .slice L1 m e1] (sz_alloc _ _)), Lib.hid ((MM.Row.new wr 33 [.int .u8 kd, .int .i64 at2, .int .i64 nn, .int .i64 aa, .string ss, .slice none 0 0, .int .u64 ww, .slice L2 m e2]).alloc (.cells #[.int .u8 kd, .int .i64 at1, .int .i64 nn, .int .i64 aa, .string ss, .slice none 0 0, .int .u64 ww, .slice L1 m e1] 33)), Lib.hid ((((MM.Far.refl [] wr).alloc _).alloc _).drew), Lib.hid ⟨by omega, by omega⟩⟩
              | exact ⟨wr.heap.size, wr.heap.size + 1, rfl, rfl, Lib.hid (by omega), Lib.hid ((MM.Row.new wr 33 [.int .u8 kd, .int .i64 at1, .int .i64 nn, .int .i64 aa, .string ss, .slice none 0 0, .int .u64 ww, .slice L1 m e1]).alloc (.cells #[.int .u8 kd, .int .i64 at2, .int .i64 nn, .int .i64 aa, .string ss, .slice none 0 0, .int .u64 ww, .slice L2 m e2] 33)), Lib.hid (row_new (w := wr.alloc (.cells #[.int .u8 kd, .int .i64 at1, .int .i64 nn, .int .i64 aa, .string ss, .slice none 0 0, .int .u64 ww, .slice L1 m e1] 33)) 33 [.int .u8 kd, .int .i64 at2, .int .i64 nn, .int .i64 aa, .string ss, .slice none 0 0, .int .u64 ww, .slice L2 m e2] (sz_alloc _ _)), Lib.hid ((((MM.Far.refl [] wr).alloc _).alloc _).drew), Lib.hid ⟨by omega, by omega⟩⟩
              | exact ⟨wr.heap.size + 1, wr.heap.size, rfl, rfl, Lib.hid (by omega), Lib.hid (row_new (w := wr.alloc (.cells #[.int .u8 kd, .int .i64 at2, .int .i64 nn, .int .i64 aa, .string ss, .slice none 0 0, .int .u64 ww, .slice L2 m e2] 33)) 33 [.int .u8 kd, .int .i64 at1, .int .i64 nn, .int .i64 aa, .string ss, .slice none 0 0, .int .u64 ww, .slice L1 m e1] (sz_alloc _ _)), Lib.hid ((MM.Row.new wr 33 [.int .u8 kd, .int .i64 at2, .int .i64 nn, .int .i64 aa, .string ss, .slice none 0 0, .int .u64 ww, .slice L2 m e2]).alloc (.cells #[.int .u8 kd, .int .i64 at1, .int .i64 nn, .int .i64 aa, .string ss, .slice none 0 0, .int .u64 ww, .slice L1 m e1] 33)), Lib.hid (((MM.Far.refl [] wr).alloc _).alloc _), Lib.hid ⟨by omega, by omega⟩⟩
              | exact ⟨wr.heap.size, wr.heap.size + 1, rfl, rfl, Lib.hid (by omega), Lib.hid ((MM.Row.new wr 33 [.int .u8 kd, .int .i64 at1, .int .i64 nn, .int .i64 aa, .string ss, .slice none 0 0, .int .u64 ww, .slice L1 m e1]).alloc (.cells #[.int .u8 kd, .int .i64 at2, .int .i64 nn, .int .i64 aa, .string ss, .slice none 0 0, .int .u64 ww, .slice L2 m e2] 33)), Lib.hid (row_new (w := wr.alloc (.cells #[.int .u8 kd, .int .i64 at1, .int .i64 nn, .int .i64 aa, .string ss, .slice none 0 0, .int .u64 ww, .slice L1 m e1] 33)) 33 [.int .u8 kd, .int .i64 at2, .int .i64 nn, .int .i64 aa, .string ss, .slice none 0 0, .int .u64 ww, .slice L2 m e2] (sz_alloc _ _)), Lib.hid (((MM.Far.refl [] wr).alloc _).alloc _), Lib.hid ⟨by omega, by omega⟩⟩
        case rest =>
          obtain ⟨hx, hy, rfl, rfl, hxy, hX, hY, HV, hlo⟩ := hcut
          clear c0 c1 c2 c3 c4 c5 c6 c7 d0 d1 d2 d3 d4 d5 d6 d7
          have fx := hX.out.frozen 1
          have x1 := hX.out.at (i := 1) rfl
          have hX2 := hX.out.put 1 (.int .i64 0)
          have hY2 := hY.out.other (p := ⟨hx, 1, none⟩) (fun e => hxy.out e.symm) (.int .i64 0)
          have fy := hY2.frozen 1
          have y1 := hY2.at (i := 1) rfl
          have HX3 : Hid (MM.Row ((wc.setCell ⟨hx, 1, none⟩ (.int .i64 0)).setCell ⟨hy, 1, none⟩ (.int .i64 0)) hx 33 [.int .u8 kd, .int .i64 0, .int .i64 nn, .int .i64 aa, .string ss, .slice none 0 0, .int .u64 ww, .slice L1 m e1]) := Lib.hid (hX2.other (p := ⟨hy, 1, none⟩) hxy.out (.int .i64 0))
          have HY3 : Hid (MM.Row ((wc.setCell ⟨hx, 1, none⟩ (.int .i64 0)).setCell ⟨hy, 1, none⟩ (.int .i64 0)) hy 33 [.int .u8 kd, .int .i64 0, .int .i64 nn, .int .i64 aa, .string ss, .slice none 0 0, .int .u64 ww, .slice L2 m e2]) := Lib.hid (hY2.put 1 (.int .i64 0))
          have HV3 : Hid (MM.Far [] wr ((wc.setCell ⟨hx, 1, none⟩ (.int .i64 0)).setCell ⟨hy, 1, none⟩ (.int .i64 0))) := Lib.hid ((HV.out.setCell (p := ⟨hx, 1, none⟩) (fun h => absurd h (by have := hlo.out.1; show ¬ hx < wr.heap.size; omega)) _).setCell (p := ⟨hy, 1, none⟩) (fun h => absurd h (by have := hlo.out.2; show ¬ hy < wr.heap.size; omega)) _)
          clear hX2 hY2
          go_upto_region 17 with (fail)
          clear fx fy x1 y1
          generalize (wc.setCell ⟨hx, 1, none⟩ (.int .i64 0)).setCell ⟨hy, 1, none⟩ (.int .i64 0) = V3 at *
          have hxl := HX3.out.lt
          have hyl := HY3.out.lt
          have x0 := HX3.out.at (i := 0) rfl
          have x1 := HX3.out.at (i := 1) rfl
          have x2 := HX3.out.at (i := 2) rfl
          have x3 := HX3.out.at (i := 3) rfl
          have x4 := HX3.out.at (i := 4) rfl
          have x5 := HX3.out.at (i := 5) rfl
          have x6 := HX3.out.at (i := 6) rfl
          have x7 := HX3.out.at (i := 7) rfl
          have y0 := HY3.out.at (i := 0) rfl
          have y1 := HY3.out.at (i := 1) rfl
          have y2 := HY3.out.at (i := 2) rfl
          have y3 := HY3.out.at (i := 3) rfl
          have y4 := HY3.out.at (i := 4) rfl
          have y5 := HY3.out.at (i := 5) rfl
          have y6 := HY3.out.at (i := 6) rfl
          have y7 := HY3.out.at (i := 7) rfl
          have HX4 := Lib.hid ((MM.Row.new V3 33 [.int .u8 kd, .int .i64 0, .int .i64 nn, .int .i64 aa, .string ss, .slice none 0 0, .int .u64 ww, .slice L1 m e1]).alloc (.cells #[.int .u8 kd, .int .i64 0, .int .i64 nn, .int .i64 aa, .string ss, .slice none 0 0, .int .u64 ww, .slice L2 m e2] 33))
          have HY4 := Lib.hid (row_new (w := V3.alloc (.cells #[.int .u8 kd, .int .i64 0, .int .i64 nn, .int .i64 aa, .string ss, .slice none 0 0, .int .u64 ww, .slice L1 m e1] 33)) 33 [.int .u8 kd, .int .i64 0, .int .i64 nn, .int .i64 aa, .string ss, .slice none 0 0, .int .u64 ww, .slice L2 m e2] (sz_alloc _ _))
          have HV4 := Lib.hid (((HV3.out.alloc (.cells #[.int .u8 kd, .int .i64 0, .int .i64 nn, .int .i64 aa, .string ss, .slice none 0 0, .int .u64 ww, .slice L1 m e1] 33)).alloc (.cells #[.int .u8 kd, .int .i64 0, .int .i64 nn, .int .i64 aa, .string ss, .slice none 0 0, .int .u64 ww, .slice L2 m e2] 33)))
          obtain ⟨i1, i2, i3⟩ := HI.out
          have HSm := Lib.hid (rsame_yes [⟨kd, 0, nn, aa, ss, ww, l⟩] 1 rfl (by omega) (fun x hx => by
            rw [List.mem_singleton.1 hx]; show l.length ≤ 100000; omega) (some ⟨V3.heap.size, 0, none⟩) (some ⟨V3.heap.size + 1, 0, none⟩) 1 1 _
            (rf_struck (f := ⟨kd, at1, nn, aa, ss, ww, l⟩) (LA := L1) (lc := e1) (by
              show MM.Row _ _ _ [.int .u8 kd, num 0, num nn, num aa, .string ss, .slice none 0 0, .int .u64 ww, .slice L1 l.length e1]
              rw [i3]; exact HX4.out) (i1.far HV4.out))
            (rf_struck (f := ⟨kd, at2, nn, aa, ss, ww, l⟩) (LA := L2) (lc := e2) (by
              show MM.Row _ _ _ [.int .u8 kd, num 0, num nn, num aa, .string ss, .slice none 0 0, .int .u64 ww, .slice L2 l.length e2]
              rw [i3]; exact HY4.out) (i2.far HV4.out)))
          clear i1 i2 i3
          go_wp2_with (first
            | (go_at_call 13
               refine HSm.out.mono ?_
               rintro e w8 ⟨rfl, hF8⟩
               have HF8 := Lib.hid ((hH.out.trans HV4.out (by simp)).trans hF8 (by simp))
               clear hF8))
          go_roundw
          case rel => exact ⟨k + 1, by omega, by go_num, HF8⟩
          case measure => simp [intOf]; omega
      · have HHE := Lib.hid hhe
        obtain rfl : k = 11 := by omega
        clear hlt
        go_wp2_with (fail)
        go_ret
        refine ⟨?_, (HFW.out.trans (HF2.out.trans hH.out (by simp)) (by simp)).below_nil⟩
        first
          | rfl
          | (have h := HHE.out; simp_all)
end SM
end Go.Proofs.YtedbaegdmianaaaDoor
