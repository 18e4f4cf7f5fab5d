/-
  The walk of CodeWays: whichever way is gone through a block that may be, there are as many words as told, and it comes to an end. Conditions: the arguments' readings, the program's tables.
-/
import Derived.Test.YthhibcfljekibaaDoorCodeArg
import Derived.ChangeArms
namespace Go.Proofs.YthhibcfljekibaaDoor
open Go.RowKit Go.ChangeShapes Go.WideShapes Go.Deep
set_option linter.unusedVariables false
namespace KW
open KP
/-- A slice of truths that came in. -/
structure Bos (w : World) (a : Option Addr) (len cap : Nat) (zs : List Bool) : Prop where
  len_ : zs.length = len
  le : len ≤ cap
  max : cap ≤ maxLen
  slot : ∀ (i : Nat) (b : Bool), zs[i]? = some b → ∃ k o, a = some ⟨k, o, none⟩ ∧ k < w.heap.size ∧ w.cell? ⟨k, o + i, none⟩ = some (.bool b)
section
variable {H : Type} {enc : TypeId × Value → H} {w : World} {fuel : Nat}
theorem bos_of {cs : List Value} {x : DataW H × List MemPlace} (h : DataW.trod enc Tryd.prog w 0 (fun _ => true) true fuel 23 cs = some x) : ∃ a len cap tl, cs = [.slice a len cap] ∧ Bos w a len cap tl := by
  obtain ⟨a, len, cap, xs, hcs, hcame, hel⟩ := MR.came_of 1 Tryd.underlying23 (by kernel_rfl) (by omega) h
  have hz : ∀ i, ∃ t : Bool, i < len → xs i = [.bool t] := by
    intro i
    by_cases h1 : i < len
    · obtain ⟨n, y, hy⟩ := hel i h1
      obtain ⟨t, h2, _⟩ := DataW.trod_bool Tryd.underlying4 hy
      exact ⟨t, fun _ => h2⟩
    · exact ⟨false, fun h => absurd h h1⟩
  obtain ⟨Z, hZ⟩ := Classical.axiomOfChoice hz
  refine ⟨a, len, cap, (List.range len).map Z, hcs, by simp, hcame.le, hcame.max, fun i t hi => ?_⟩
  have hil : i < len := by have := (List.getElem?_eq_some_iff.1 hi).1; simpa using this
  obtain ⟨ad, rfl, hb, hc⟩ := hcame.elems (by omega)
  simp [hil] at hi
  subst hi
  obtain ⟨_, h4⟩ := hc 0 (by omega)
  have h5 := h4 0 (.bool (Z 0)) (by rw [hZ 0 (by omega)]; rfl)
  simp only [Nat.zero_mul, Nat.add_zero, add_zero_] at h5
  obtain ⟨b, off, spot⟩ := ad
  obtain rfl : spot = none := World.cell?_spot h5
  obtain ⟨_, h2⟩ := hc i hil
  refine ⟨b, off, rfl, hb, ?_⟩
  have := h2 0 (.bool (Z i)) (by rw [hZ i hil]; rfl)
  rw [MR.mk_add] at this
  simpa using this
end
theorem u8w {x : Int} (h : (Lit.int .u8 x).wf = true) : 0 ≤ x ∧ x ≤ 255 := by
  simp [Lit.wf, IntKind.min, IntKind.max, IntKind.signed, IntKind.bits] at h
  omega
set_option maxHeartbeats 16000000 in
set_option maxRecDepth 20000 in
theorem ways_law (a0 : Option Addr) (len0 cap0 : Nat) (z0 : List Bq) (a1 : Int) (a2 : Option Addr) (len2 cap2 : Nat) (z2 : List Bool) (W : World) (w0 : Bqs W a0 len0 cap0 z0) (w1 : (Lit.int .u8 a1).wf = true) (w2 : Bos W a2 len2 cap2 z2) (hT : TT W) :
    Calls Tryd.prog 3 #[.slice a0 len0 cap0, .int .u8 a1, .slice a2 len2 cap2] W fun e w' => e = .returned (.bool true) ∧ Below W.heap.size W w' := by
  have HT := Lib.hid hT
  have HZ := Lib.hid w0
  have HBo := Lib.hid w2
  obtain ⟨u0, u1⟩ := u8w w1
  have hl2 := w2.le
  have hm2 := w2.max
  unfold maxLen at hm2
  clear hT w0 w1 w2
  go_enter Tryd.func3, Tryd.ntmps3
  go_upto_region 3 with (first
    | (go_at_call 8
       refine (shown_any _).mono ?_
       rintro e wa ⟨rfl, hFa⟩)
    | (go_at_call 9
       refine (few_any a0 len0 cap0 z0 _ ?_).mono ?_
       · exact HZ.out.far hFa
       rintro e wb ⟨v, rfl, hG⟩))
  have hF := few_of hG (HZ.out.far hFa)
  have hSm : ∀ t ∈ gathB z0 len0, t.Sm wb := fun t ht => (hF.ok t ht).far hF.far
  obtain ⟨A, c, rfl, k1, k2, k3, k4, hBr⟩ := br_of hF.own hSm
  have hn8 := hF.le
  unfold maxLen at k2
  have hFW := hFa.trans hF.far (by simp)
  generalize gathB z0 len0 = bs at *
  obtain ⟨n, hn⟩ : ∃ n, bs.length = n := ⟨_, rfl⟩
  rw [hn] at k1 hn8 ⊢
  have HN := Lib.hid hn
  have HSm := Lib.hid hSm
  have HBr := Lib.hid hBr
  have HFW := Lib.hid hFW
  have HCh := Lib.hid (check_any (bs.map Bq.kb) n (by simp [hn]) (by omega) (sm_wb hSm) A c wb (HT.out.far hFW) hBr)
  obtain ⟨R, hR⟩ : ∃ R, check (bs.map Bq.kb) = R := ⟨_, rfl⟩
  rw [hR] at HCh
  have HR := Lib.hid hR
  clear hR hF hG hSm hBr hFW hn k3 k4
  obtain ⟨r1, r2, r3⟩ := R
  have fin : ∀ wz, MM.Far [] W wz → Below W.heap.size W wz := fun wz f => f.below_nil
  have FIN := Lib.hid fin
  clear fin
  by_cases h0 : n = 0
  · subst h0
    have hr : (r1, r2, r3) = ((0 : Int), (0 : Int), (1 : Int)) := by
      rw [← HR.out, List.length_eq_zero_iff.1 HN.out]; rfl
    injection hr with hr1 hr
    injection hr with hr2 hr3
    subst hr1; subst hr2; subst hr3
    go_wp2_with (first
      | (go_at_call 10
         refine HCh.out.mono ?_
         rintro e wc ⟨rfl, hFc⟩))
    go_ret
    exact ⟨rfl, FIN.out _ (HFW.out.trans hFc (by simp))⟩
  have hnn : ((n : Int) == 0) = false := by simpa using h0
  have hne : bs.map Bq.kb ≠ [] := fun h => h0 (by rw [← HN.out]; simpa using congrArg List.length h)
  by_cases h3 : r3 = 0
  · subst h3
    obtain ⟨-, -, hall⟩ := check_zero (l := bs.map Bq.kb) (by rw [HR.out])
    have hall2 := Lib.hid hall
    clear hall
    go_upto_region 6 with (first
      | (go_at_call 10
         refine HCh.out.mono ?_
         rintro e wc ⟨rfl, hFc⟩))
    have HFc := Lib.hid (HFW.out.trans hFc (by simp))
    have HBr2 := Lib.hid (HBr.out.far hFc (by simp))
    have HSm2 : Hid (∀ t ∈ bs, t.Sm wc) := Lib.hid (fun t ht => (HSm.out t ht).far hFc)
    clear hFc HCh HR
    obtain ⟨k, hk⟩ : ∃ k : Nat, a1 % (n : Int) = k := ⟨(a1 % (n : Int)).toNat, by have := Int.emod_nonneg a1 (show (n : Int) ≠ 0 by omega); omega⟩
    have hkn : k < n := by have := Int.emod_lt_of_pos a1 (show (0 : Int) < (n : Int) by omega); omega
    have hkl : k < bs.length := by rw [HN.out]; exact hkn
    have hkm : k < (bs.map Bq.kb).length := by simpa using hkl
    obtain ⟨b, o, A', c', rfl, -, hb, c0, c1, k5, k6, hI⟩ := HBr2.out.at hkm
    have hwa := hall2.out k _ (List.getElem?_eq_getElem hkm)
    obtain ⟨d, hd, hw⟩ := way_of hwa
    have hwb := sm_wb HSm2.out _ (List.getElem_mem hkm)
    generalize (bs.map Bq.kb)[k] = x at *
    obtain ⟨many, l⟩ := x
    simp only at c0 c1 k5 k6 hI hd hw hwb
    obtain ⟨m, hm⟩ : ∃ m, l.length = m := ⟨_, rfl⟩
    rw [hm] at c1 k5
    have hm9 : m < 1000000000 := by rw [← hm]; exact hwb.len
    have HDp := Lib.hid (fun W (h : Ir W [] A' l) => depth_any l m hm hm9 many A' c' W h)
    rw [hd] at HDp
    have HDl : Hid (d.length = m) := Lib.hid (by rw [hw.len, hm])
    have HM := Lib.hid hm
    have HW := Lib.hid hw
    have HLow := Lib.hid (depth_low hd)
    have HI := Lib.hid hI
    have h0m : 0 < m := by rw [← hm]; exact hw.pos
    clear hd hw hwb hI hwa hm hall2 HBr2 HSm2 HBr HSm hkl hkm
    have FX := (MM.Far.refl [] wc).alloc (.cells #[num many, .slice A' m c'] 31)
    have HFX := Lib.hid (HFc.out.trans FX (by simp))
    have HIX := Lib.hid (HI.out.far FX (by simp))
    have HBX := Lib.hid (MM.Row.new wc 31 [num many, .slice A' m c'])
    clear FX HFc
    go_upto_region 8 with (first
      | (go_at_call 11
         refine (HDp.out _ HIX.out).mono ?_
         rintro e wd ⟨v, rfl, hFd, -, hv⟩
         obtain ⟨g, rfl, hr, hg⟩ := hv d rfl
         rw [HDl.out]
         have HFd := Lib.hid (HFX.out.trans hFd (by simp))
         have HId := Lib.hid (HIX.out.far hFd (by simp))
         have HBd := Lib.hid (HBX.out.far hFd (by simp))
         have HRd := Lib.hid hr
         clear hFd hv hr hg))
    obtain ⟨bx, hbx⟩ : ∃ bx, wc.heap.size = bx := ⟨_, rfl⟩
    rw [hbx] at HBd
    rw [hbx]
    clear hbx HIX HFX HBX HDp HI c0 c1
    have y1 : wd.cell? ⟨bx, 1, none⟩ = some (.slice A' m c') := HBd.out.at (i := 1) rfl
    go_wp2_with (fail)
    have F0 : Hid (MM.Far [] wd wd) := Lib.hid (MM.Far.refl _ _)
    have HZ0 : Hid ((0 : Int) = at_ d 0) := Lib.hid HW.out.zero.symm
    clear y1
    go_loopw [15, 16, 71] (fun s15 s16 s71 wr => ∃ (q i : Nat) (dp : Int), i < m ∧ q ≤ i ∧ s15 = num dp ∧ s16 = num i ∧ s71 = num q ∧ Hid (dp = at_ d i) ∧ Hid (MM.Far [] wd wr)) (fun _ _ s71 _ => m + 1 - (intOf s71).toNat)
    case atStart => exact ⟨0, 0, 0, h0m, by omega, rfl, rfl, rfl, HZ0, F0⟩
    case round =>
      obtain ⟨q, i, dp, him, hqi, rfl, rfl, rfl, HD, HFr⟩ := hrel
      have him2 : i < l.length := by rw [HM.out]; exact him
      obtain ⟨b2, o2, rfl, -, hb2, e0, e1, e2, e3⟩ := (HId.out.far HFr.out (by simp)).at him2
      have hgd := HW.out.good i _ (List.getElem?_eq_getElem him2)
      have hmy := HW.out.may i _ (List.getElem?_eq_getElem him2)
      have hnn := HW.out.nn i
      have hB := HBd.out.far HFr.out (by simp)
      have y1 : wr.cell? ⟨bx, 1, none⟩ = some (.slice (some ⟨b2, o2, none⟩) m c') := hB.at (i := 1) rfl
      have hbxl := hB.lt
      have hdi : wr.cell? ⟨g, i, none⟩ = some (num (at_ d i)) := (HRd.out.far HFr.out (by simp)).at (ints_at (by rw [HDl.out]; exact him))
      have hgl := (HRd.out.far HFr.out (by simp)).lt
      rw [← HD.out] at hdi
      have hlow := HLow.out i
      rw [← HD.out] at hlow hnn
      have hdp0 : 0 ≤ dp := by have h1 := hgd.pos; have h2 := hgd.le; rw [← HD.out] at h2; omega
      have hst := way_step hgd hmy
      rw [HDl.out, ← HD.out] at hst
      generalize l[i] = x at *
      obtain ⟨op, xa, xb, xw⟩ := x
      simp only at e0 e1 e2 e3 hst
      clear hgd hmy
      rcases hst with ⟨rfl, hi1, hdn⟩ | ⟨rfl, hb0, hb1, hi1, hdn⟩ | ⟨rfl, hb0, hb1, hi1, hdn⟩ | ⟨rfl, j, rfl, hj1, hj2, hdn⟩ | ⟨rfl, j, rfl, hj1, hj2, hdn, hi1, hdn2⟩ | ⟨rfl, hdn⟩ | ⟨hop, hdn⟩ | ⟨c7, c11, c12, c8, c9, c13, c15, c16, hi1, hdn⟩
      · have HDN := Lib.hid hdn
        clear hdn
        go_wp2_with (fail)
        go_roundw
        case rel => exact ⟨q + 1, i + 1, dp + 1, by omega, by omega, by go_num, by go_num, by go_num, Lib.hid HDN.out.symm, Lib.hid (HFr.out.alloc _)⟩
        case measure => simp [intOf]; omega
      · have HDN := Lib.hid hdn
        clear hdn
        go_wp2_with (fail)
        go_roundw
        case rel => exact ⟨q + 1, i + 1, dp - xb, by omega, by omega, by go_num, by go_num, by go_num, Lib.hid HDN.out.symm, Lib.hid (HFr.out.alloc _)⟩
        case measure => simp [intOf]; omega
      · have HDN := Lib.hid hdn
        clear hdn
        go_wp2_with (fail)
        go_roundw
        case rel => exact ⟨q + 1, i + 1, dp - xa, by omega, by omega, by go_num, by go_num, by go_num, Lib.hid HDN.out.symm, Lib.hid (HFr.out.alloc _)⟩
        case measure => simp [intOf]; omega
      · have HDN := Lib.hid hdn
        clear hdn
        go_wp2_with (fail)
        go_roundw
        case rel => exact ⟨q + 1, j, dp, by omega, by omega, rfl, rfl, by go_num, Lib.hid HDN.out.symm, Lib.hid (HFr.out.alloc _)⟩
        case measure => simp [intOf]; omega
      · have HDN := Lib.hid hdn
        have HDN2 := Lib.hid hdn2
        clear hdn hdn2
        by_cases hq2 : q < len2
        · obtain ⟨kb, ob, rfl, hkb, hcb⟩ := HBo.out.slot q _ (List.getElem?_eq_getElem (by rw [HBo.out.len_]; exact hq2))
          generalize z2[q]'(by rw [HBo.out.len_]; exact hq2) = bb at *
          have hcb2 : wr.cell? ⟨kb, ob + q, none⟩ = some (.bool bb) := ((HFd.out.trans HFr.out (by simp)).cell (p := ⟨kb, ob + q, none⟩) hkb (by simp)).trans hcb
          have hkb2 : kb < wr.heap.size := Nat.lt_of_lt_of_le hkb (HFd.out.trans HFr.out (by simp)).size
          clear hcb hkb
          cases bb with
          | true =>
            go_wp2_with (fail)
            go_roundw
            case rel => exact ⟨q + 1, j, dp, by omega, by omega, rfl, rfl, by go_num, Lib.hid HDN.out.symm, Lib.hid (HFr.out.alloc _)⟩
            case measure => simp [intOf]; omega
          | false =>
            go_wp2_with (fail)
            go_roundw
            case rel => exact ⟨q + 1, i + 1, dp, by omega, by omega, rfl, by go_num, by go_num, Lib.hid HDN2.out.symm, Lib.hid (HFr.out.alloc _)⟩
            case measure => simp [intOf]; omega
        · go_wp2_with (fail)
          go_roundw
          case rel => exact ⟨q + 1, i + 1, dp, by omega, by omega, rfl, by go_num, by go_num, Lib.hid HDN2.out.symm, Lib.hid (HFr.out.alloc _)⟩
          case measure => simp [intOf]; omega
      · subst hdn
        go_wp2_with (fail)
        go_ret
        exact ⟨by simp, FIN.out _ ((HFd.out.trans HFr.out (by simp)).alloc _)⟩
      · subst hdn
        rcases hop with rfl | rfl
        all_goals
          go_wp2_with (fail)
          go_ret
          exact ⟨rfl, FIN.out _ ((HFd.out.trans HFr.out (by simp)).alloc _)⟩
      · have e7 : (op == 7) = false := by simpa using c7
        have e11 : (op == 11) = false := by simpa using c11
        have e12 : (op == 12) = false := by simpa using c12
        have e8 : (op == 8) = false := by simpa using c8
        have e9 : (op == 9) = false := by simpa using c9
        have e13 : (op == 13) = false := by simpa using c13
        have e15 : (op == 15) = false := by simpa using c15
        have e16 : (op == 16) = false := by simpa using c16
        have HDN := Lib.hid hdn
        clear hdn
        go_wp2_with (fail)
        go_roundw
        case rel => exact ⟨q + 1, i + 1, dp, by omega, by omega, rfl, by go_num, by go_num, Lib.hid HDN.out.symm, Lib.hid (HFr.out.alloc _)⟩
        case measure => simp [intOf]; omega
  · obtain ⟨k, at', e, -, -⟩ := check_not hne (by rw [HR.out]; exact h3)
    have hr : (r1, r2, r3) = ((k : Int), (at' : Int), (110 : Int)) := HR.out.symm.trans e
    injection hr with hr1 hr
    injection hr with hr2 hr3
    subst hr1; subst hr2; subst hr3
    go_wp2_with (first
      | (go_at_call 10
         refine HCh.out.mono ?_
         rintro e wc ⟨rfl, hFc⟩))
    go_ret
    exact ⟨rfl, FIN.out _ (HFW.out.trans hFc (by simp))⟩
end KW
end Go.Proofs.YthhibcfljekibaaDoor
