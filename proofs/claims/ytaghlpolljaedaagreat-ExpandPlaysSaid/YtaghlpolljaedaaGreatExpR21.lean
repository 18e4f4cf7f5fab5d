/-
  Contract of layer 8's document: Expand. Conditions: sizes.
-/
import Derived.Test.YtaghlpolljaedaaGreatExpR20
import Derived.Test.YtaghlpolljaedaaGreatExpL
namespace Go.Proofs.YtaghlpolljaedaaGreat
open Go.RowKit
set_option linter.unusedVariables false
namespace EW
open LX SX RW6 EX
open RX (Nd Rd)
open RM6 (Kin)
/-- What an Expand comes to: forms, and which stand by themselves, wherever they lie; or where it is wrong. -/
def DxpQ (w0 : World) : Except Int (List Fm × List Nat) → Ending → World → Prop
  | .error a, e, w => e = .returned (.tuple #[.slice none 0 0, .slice none 0 0, .int .i64 a, .int .i64 80]) ∧ MM.Far [] w0 w
  | .ok r, e, w => ∃ A c T d, e = .returned (.tuple #[.slice A r.1.length c, .slice T r.2.length d, .int .i64 0, .int .i64 0]) ∧ FmR w A r.1 ∧ IntRow w T r.2 ∧ MM.Far [] w0 w
theorem ExpQ.dxp {w0 w : World} {X : Except Int (List Fm × List Nat)} {e : Ending} (h : ExpQ w0 X e w) : DxpQ w0 X e w := by
  cases X with
  | error a => exact h
  | ok r =>
    obtain ⟨fv, tv, rs, rfl, hD, hrs⟩ := h
    obtain ⟨A, c, rfl, -, -, -, hF⟩ := hD.rows
    obtain ⟨T, d, rfl, -, -, -, hT⟩ := hD.tops_row
    rw [hrs] at hF
    exact ⟨A, c, T, d, by rw [← hrs, List.length_map], hF, hT, hD.far⟩
theorem introw_of_sl {w : World} {Z : List Nat} {A : Option Addr} {n c : Nat} {l : List Nat} (h : Sl w Z (.slice A n c) (ints l)) : IntRow w A l := fun k hk => by
  obtain ⟨A', c', e, _, _, k3⟩ := h
  injection e with e1 e2 e3
  obtain ⟨g, o, e', _, hl, hc⟩ := k3 k (.int .i64 ((l[k] : Nat) : Int)) (by unfold ints; rw [List.getElem?_map, List.getElem?_eq_getElem hk]; rfl)
  exact ⟨g, o, by rw [e1]; exact e', hl, hc⟩
section
variable {w0 w w1 : World} {E : List Nat} {q : Nat} {DA : Option Addr} {n c : Nat} {ns : List Nd} {dv fv : Value} {bad : Int} {rs : List (Fm × Value × Value)} {X : Except Int (List Fm)} {B : Nat}
theorem Rx.rows (h : Rx w0 w E q dv fv bad rs) : ∃ A c, fv = .slice A rs.length c ∧ FmR w A (rs.map (·.1)) := by
  obtain ⟨A, c, rfl, k0, k1, k2, k3, hh⟩ := MO.form h.row
  refine ⟨A, c, rfl, fun k hk => ?_⟩
  have hk2 : k < rs.length := by simpa using hk
  rcases hh with ⟨_, hz, _⟩ | ⟨g, rfl, _, hlt⟩
  · omega
  obtain ⟨hp, hl⟩ := h.rd rs[k] (List.getElem_mem hk2)
  obtain ⟨PA, pc, ep, _⟩ := hp.form
  obtain ⟨LA, lc, el, _⟩ := hl.form
  have c (j : Nat) (hj : j < 8) (u : Value) (hu : (fmL rs[k])[j]? = some u) : w.cell? ⟨g, 0 + k * 8 + j, none⟩ = some u := by
    have := @World.ownsRow.cells w _ _ _ _ _ _ h.row g rfl (k * 8 + j) u ((fmC_at rs k hk2 j hj).trans hu)
    rw [MM.head_add] at this
    rw [Nat.zero_add]; exact this
  have em : (rs.map (·.1))[k] = rs[k].1 := by simp
  rw [em]
  rw [strs_len] at ep
  rw [ints_len] at el
  rw [ep] at hp
  rw [el] at hl
  exact ⟨g, 0, PA, pc, LA, lc, rfl, hlt, c 0 (by omega) _ rfl, c 1 (by omega) _ rfl, c 2 (by omega) _ rfl, c 3 (by omega) _ rfl, c 4 (by omega) _ rfl, (c 5 (by omega) _ rfl).trans (congrArg some ep), c 6 (by omega) _ rfl, (c 7 (by omega) _ rfl).trans (congrArg some el), hp.more (fun b hb => by cases hb), introw_of_sl hl⟩
theorem form_allD (D : Dta w0 DA n ns) : ∀ N, FormC w0 q DA n c ns N := by
  intro N E w fv X B i top hi hN hB h
  obtain ⟨b, o, rfl⟩ := h.dsome D hi
  exact form_all D N E w fv X B i top hi hN hB h
theorem Dta.to (D : Dta w0 DA n ns) (f : MM.Far [] w0 w1) : Dta w1 DA n ns := ⟨D.nd.far f, D.len, D.ok, D.s3, D.few, D.at0, D.leaf⟩
theorem Rx.start (w : World) (DA : Option Addr) (n c : Nat) : Rx w (w.alloc (.cells #[.slice DA n c, .slice none 0 0, .int .i64 (-1)] 56)) [] w.heap.size (.slice DA n c) (.slice none 0 0) (-1) [] :=
  ⟨(MM.Far.refl [] w).alloc _, Nat.le_refl _, MM.Row.new w 56 [.slice DA n c, .slice none 0 0, .int .i64 (-1)], MO.none_ _ _ _ _, fun x hx => absurd hx (by simp), fun b hb => absurd hb (by simp)⟩
set_option maxHeartbeats 4000000 in
set_option maxRecDepth 20000 in
theorem dexpand_any {TA : Option Addr} {tn tc : Nat} {zs : List Int} (D : Dta w DA n ns) (hMay : Calls Tryz.prog 19 #[.slice DA n c] w fun e w' => e = .returned (.bool true) ∧ MM.Far [] w w')
    (hT : Sl w [] (.slice TA tn tc) (zs.map num)) (hzl : zs.length = tn) (htn : tn ≤ 100000) (hin : inRange n zs = true) (hW : sumT ns (zs.map Int.toNat) ≤ 100000) (hf : ∀ i ∈ zs.map Int.toNat, wt ns (.top i) ≤ 16 * ns.length) :
    Calls Tryz.prog 8 #[.slice DA n c, .slice TA tn tc] w (DxpQ w (EX.expand ns (zs.map Int.toNat))) := by
  have HT := Lib.hid hT
  have HZL := Lib.hid hzl
  have HD := Lib.hid D
  have HIN := Lib.hid hin
  have HW := Lib.hid hW
  have HFF := Lib.hid hf
  have HMAY := Lib.hid hMay
  obtain ⟨R, hR⟩ : ∃ R, EX.expand ns (zs.map Int.toNat) = R := ⟨_, rfl⟩
  rw [hR]
  have HR := Lib.hid hR
  clear hT hzl D hin hW hf hMay hR
  unfold num at *
  go_enter Tryz.func8, Tryz.ntmps8
  go_wp2_with (first
    | (go_at_call 19; (with_reducible refine HMAY.out.mono ?_); rintro e w1 ⟨rfl, hF1⟩; have HF1 := Lib.hid hF1; clear hF1))
  go_loopw [8] (fun s8 wr => ∃ k : Nat, k ≤ tn ∧ s8 = .int .i64 (k : Int) ∧ Hid (wr = w1)) (fun s8 _ => tn - (intOf s8).toNat)
  case atStart => exact ⟨0, by omega, rfl, Lib.hid rfl⟩
  case round =>
    obtain ⟨k, hk, rfl, hH⟩ := hrel
    have hwr := hH.out
    subst hwr
    clear hH
    by_cases hlt : k < tn
    · have hk2 : k < zs.length := by rw [HZL.out]; exact hlt
      obtain ⟨A', c', e, hc1, hc2, hc3⟩ := HT.out.far HF1.out (by simp)
      injection e with e1 e2 e3
      subst e1 e3
      obtain ⟨g, o, rfl, hz, hg, cc⟩ := hc3 k (.int .i64 zs[k]) (by rw [List.getElem?_map, List.getElem?_eq_getElem hk2]; rfl)
      have hzr : 0 ≤ zs[k] ∧ zs[k] < (n : Int) := of_decide_eq_true (List.all_eq_true.1 HIN.out zs[k] (List.getElem_mem hk2))
      generalize zs[k] = z at *
      have hz1 : decide (z < 0) = false := by rw [decide_eq_false_iff_not]; omega
      have hz2 : ¬ (n : Int) ≤ z := by omega
      have hz3 : decide ((n : Int) ≤ z) = false := by rw [decide_eq_false_iff_not]; exact hz2
      clear hk2 e2 hc1 hc2 hc3 hz hg hzr
      go_wp2
      go_roundw
      case rel => exact ⟨k + 1, by omega, by go_num, Lib.hid trivial⟩
      case measure => simp [intOf]; omega
    · obtain rfl : k = tn := by omega
      obtain ⟨w1, rfl⟩ : ∃ w1, w1 = wr := ⟨_, rfl⟩
      go_wp2
      have HST : Hid (Stx w1 (w1.alloc (.cells #[.slice DA n c, .slice none 0 0, .int .i64 (-1)] 56)) [] w1.heap.size (.slice DA n c) (.slice none 0 0) (.ok []) 0) := Lib.hid ⟨[], -1, Rx.start w1 DA n c, Nat.le_refl _, rfl, rfl⟩
      have HFC := Lib.hid (fun N => form_allD (q := w1.heap.size) (c := c) (HD.out.to HF1.out) N)
      have HW0 : Hid (w1.heap.size ≤ (w1.alloc (.cells #[.slice DA n c, .slice none 0 0, .int .i64 (-1)] 56)).heap.size) := Lib.hid (by rw [sz_alloc]; omega)
      generalize w1.alloc (.cells #[.slice DA n c, .slice none 0 0, .int .i64 (-1)] 56) = W at *
      generalize hq : w1.heap.size = q at *
      have HQ := Lib.hid hq
      have HW1 : Hid (w1.heap.size ≤ W.heap.size) := Lib.hid (by rw [hq]; exact HW0.out)
      clear hq
      have H0 : Hid (∃ st ks, runTops ns (16 * ns.length) ((zs.map Int.toNat).drop 0) st ks = R ∧ Col w1 W W [] q (.slice DA n c) (.slice none 0 0) (.ok (st, ks)) (sumT ns ((zs.map Int.toNat).take 0)) (.slice none 0 0) 0) := Lib.hid ⟨[], [], HR.out, Col.start (X := .ok []) (HST.out.mono (Nat.zero_le _))⟩
      clear HST HR
      go_loopw [10, 11] (fun s10 s11 wx => ∃ (j : Nat) (OA : Option Addr) (oc : Nat), j ≤ k ∧ s10 = .slice OA j oc ∧ s11 = .int .i64 (j : Int) ∧ Hid (∃ st ks, runTops ns (16 * ns.length) ((zs.map Int.toNat).drop j) st ks = R ∧ Col w1 W wx [] q (.slice DA n c) (.slice none 0 0) (.ok (st, ks)) (sumT ns ((zs.map Int.toNat).take j)) (.slice OA j oc) j)) (fun _ s11 _ => k - (intOf s11).toNat)
      case atStart => exact ⟨0, none, 0, by omega, rfl, rfl, H0⟩
      case round =>
        obtain ⟨j, OA, oc, hj, rfl, rfl, hC0⟩ := hrel
        obtain ⟨wo, rfl⟩ : ∃ wo, wo = wr := ⟨_, rfl⟩
        obtain ⟨st, ks0, hRun, hC⟩ := hC0.out
        have HRun := Lib.hid hRun
        have HC := Lib.hid hC
        have hst0 := hC
        obtain ⟨fv0, ks1, hks1, ho1, hS1, hF1', hY1⟩ := hst0
        have hks : ks0 = ks1 := hY1 st ks0 rfl
        have HFq := Lib.hid hS1.low.1
        have HS1 := Lib.hid hS1
        have HO1 := Lib.hid ho1
        have HKS1 := Lib.hid hks
        clear H0 hC0 hRun hC hY1 hks ho1 hks1 hF1'
        by_cases hlt2 : j < k
        · have hj2 : j < zs.length := by rw [HZL.out]; exact hlt2
          have hj3 : j < (zs.map Int.toNat).length := by rw [List.length_map]; exact hj2
          obtain ⟨A', c', e, hc1, hc2, hc3⟩ := HT.out.far (HF1.out.trans HFq.out (by simp)) (by simp)
          injection e with e1 e2 e3
          subst e1 e3
          obtain ⟨g, o, rfl, hz, hg, cc⟩ := hc3 j (.int .i64 zs[j]) (by rw [List.getElem?_map, List.getElem?_eq_getElem hj2]; rfl)
          have hzr : 0 ≤ zs[j] ∧ zs[j] < (n : Int) := of_decide_eq_true (List.all_eq_true.1 HIN.out zs[j] (List.getElem_mem hj2))
          obtain ⟨i, hi⟩ : ∃ i, zs[j].toNat = i := ⟨_, rfl⟩
          have hzi : zs[j] = (i : Int) := by omega
          have hget : (zs.map Int.toNat)[j] = i := by rw [List.getElem_map, hi]
          have hwi : wt ns (.top i) ≤ 16 * ns.length := HFF.out i (by rw [← hget]; exact List.getElem_mem hj3)
          have hstk := sumT_take (ns := ns) hj3
          have hsl := sumT_le (ns := ns) (zs.map Int.toNat) (j + 1)
          rw [hget] at hstk
          rw [hzi] at cc
          have hrun := HRun.out
          rw [List.drop_eq_getElem_cons hj3, hget] at hrun
          unfold runTops at hrun
          rw [exq_run HD.out.ok hwi] at hrun
          have HCL := Lib.hid (HC.out.call (R := exq ns (.top i)) (B' := sumT ns ((zs.map Int.toNat).take (j + 1))) (f := 20) (args := #[.pointer (some ⟨q, 0, none⟩), .int .i64 ((i : Nat) : Int), .bool true]) (fun fv1 hS => by
            have h2 := HFC.out (16 * T ns i) _ _ _ _ _ i true (by omega) (by omega) (by have := HW.out; omega) hS
            refine h2.mono fun e w1 hQ => hQ.mono (by omega)))
          clear hj2 hj3 e2 hc1 hc2 hc3 hz hg hzr hi hzi hget hwi hstk hsl
          cases hx : exq ns (.top i) st with
          | error a =>
            rw [hx] at hrun
            have HRE : Hid (R = .error a) := Lib.hid hrun.symm
            have HX := Lib.hid hx
            clear hrun hx
            go_wp2_with (first
              | (go_at_call 20; (with_reducible refine HCL.out.mono ?_); rintro e w4 ⟨fv2, ks, kk, he, hks, ho, hS, hF4, hsz, hY⟩; (replace he : e = .returned (.int .i64 ((kk : Nat) : Int)) := he); subst he
                 have hS' : Stx w1 w4 ((Value.slice OA j oc).ownBlock.toList ++ []) q (.slice DA n c) fv2 (fst' (exq ns (.top i) st)) (sumT ns ((zs.map Int.toNat).take (j + 1))) := hS
                 rw [HX.out] at hS'
                 obtain ⟨rs, bad, h1, h2, h3, h4⟩ := hS'
                 subst h3
                 have x2 := h1.head.at (i := 2) rfl
                 have h4b : (0 : Int) ≤ bad := h4
                 have HF5 := Lib.hid h1.far
                 clear hks ho hS hF4 hsz hY h1 h2 h4))
            go_quiet (fail)
            go_wp2
            refine bodyPost_ret (v := .tuple #[.slice none 0 0, .slice none 0 0, .int .i64 bad, .int .i64 80]) (by simp [results, Tryz.results8, go_sem]) rfl ?_
            rw [HRE.out]
            exact ⟨rfl, (HF1.out.trans HF5.out (by simp)).drewN _⟩
          | ok y =>
            obtain ⟨st', k'⟩ := y
            rw [hx] at hrun
            have HRE := Lib.hid hrun
            have HX := Lib.hid hx
            clear hrun hx
            go_wp2_with (first
              | (go_at_call 20; (with_reducible refine HCL.out.mono ?_); rintro e w4 ⟨fv2, ks, kk, he, hks, ho, hS, hF4, hsz, hY⟩; (replace he : e = .returned (.int .i64 ((kk : Nat) : Int)) := he); subst he
                 have hS' : Stx w1 w4 ((Value.slice OA j oc).ownBlock.toList ++ []) q (.slice DA n c) fv2 (fst' (exq ns (.top i) st)) (sumT ns ((zs.map Int.toNat).take (j + 1))) := hS
                 rw [HX.out] at hS'
                 obtain ⟨rs, bad, h1, h2, h3, h4⟩ := hS'
                 subst h3
                 have x2 := h1.head.at (i := 2) rfl
                 have HKS := Lib.hid hks
                 have HOK2 := Lib.hid ho; have HS := Lib.hid hS; have HF4 := Lib.hid hF4; have HSZ := Lib.hid hsz; have HY := Lib.hid hY
                 clear hks ho hS hF4 hsz hY h1 h2 h4)
              | (at_builtin; refine rplace_push (l := ks) (n := kk) rfl HOK2.out HSZ.out (by have := HKS.out; omega) rfl (.tmp 60) (.tmp 62) rfl rfl rfl ?_; intro A3 c3 w5 hO3 hF3 hA3; have HN := Lib.hid (Col.next HW1.out HS.out HF4.out HOK2.out HY.out hO3 hF3 hA3); clear hO3 hF3 hA3))
            go_roundw
            case rel =>
              have h := HN.out
              have e : (bnd (Except.ok (st, ks0)) fun y => bnd (exq ns (.top i) y.1) fun z => Except.ok (z.1, y.2 ++ [z.2])) = .ok (st', ks0 ++ [k']) := by
                show (bnd (exq ns (.top i) st) fun z => Except.ok (z.1, ks0 ++ [z.2])) = _
                rw [HX.out]
                rfl
              rw [HKS.out, e] at h
              exact ⟨j + 1, A3, c3, by omega, by rw [HKS.out], by go_num, Lib.hid ⟨st', ks0 ++ [k'], HRE.out, h⟩⟩
            case measure => simp [intOf]; omega
        · obtain rfl : j = k := by omega
          have hrun := HRun.out
          rw [List.drop_eq_nil_of_le (by rw [List.length_map, HZL.out]; exact Nat.le_refl _)] at hrun
          have HRE : Hid (.ok (st, ks0) = R) := Lib.hid hrun
          obtain ⟨rs, bad, h1, h2, h3, h4⟩ := HS1.out
          obtain ⟨FA, fc, rfl, hFM⟩ := h1.rows
          have x1 := h1.head.at (i := 1) rfl
          have hI := own_ints HO1.out
          obtain ⟨IA, ic, ei, -, -, -, hIR⟩ := hI
          injection ei with e1 e2 e3
          subst e1
          have HFM := Lib.hid hFM
          have HIR := Lib.hid hIR
          have HRS : Hid (rs.map (·.1) = st) := Lib.hid h4
          have HE2 : Hid (j = ks1.length) := Lib.hid e2
          clear hrun h1 h2 h3 h4 hFM hIR e2 e3 hS1
          go_wp2
          refine bodyPost_ret (v := .tuple #[.slice FA rs.length fc, .slice OA j oc, .int .i64 0, .int .i64 0]) (by simp [results, Tryz.results8, go_sem]) rfl ?_
          rw [← HRE.out]
          refine ⟨FA, fc, OA, oc, ?_, ?_, ?_, HF1.out.trans HFq.out (by simp)⟩
          · rw [← HRS.out, List.length_map, HKS1.out, ← HE2.out]
          · rw [← HRS.out]; exact HFM.out
          · rw [HKS1.out]; exact HIR.out
end
end EW
end Go.Proofs.YtaghlpolljaedaaGreat
