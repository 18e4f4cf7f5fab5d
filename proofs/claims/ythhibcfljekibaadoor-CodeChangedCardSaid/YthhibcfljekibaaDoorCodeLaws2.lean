/-
  The walk of CodeChanged: of blocks that may be one with a field that is not named, or an address, is wrong just there. Conditions: the arguments' readings, the program's tables.
-/
import Derived.Test.YthhibcfljekibaaDoorCodeOwn
import Derived.Deep.DeepCutAuto
import Derived.Deep.CutBlock
namespace Go.Proofs.YthhibcfljekibaaDoor
open Go.RowKit Go.ChangeShapes Go.WideShapes Go.Deep
set_option linter.unusedVariables false
namespace KW
open KP
theorem u8w2 {x : Int} (h : (Lit.int .u8 x).wf = true) : 0 ≤ x ∧ x ≤ 255 := by
  simp [Lit.wf, IntKind.min, IntKind.max, IntKind.signed, IntKind.bits] at h
  omega
/-- An instruction's cells with one of them set: what change makes. -/
theorem change_cel (how : Int) (x : Ki) : ∃ f u, f < 4 ∧ (cel x).set f u = cel (change how x) ∧ ((how % 3 = 0 ∧ x.op = 1 ∧ f = 2 ∧ u = num 1) ∨ (how % 3 = 0 ∧ x.op ≠ 1 ∧ f = 3 ∧ u = .int .u64 8) ∨ (how % 3 = 1 ∧ x.op = 11 ∧ f = 3 ∧ u = .int .u64 1) ∨
    (how % 3 = 1 ∧ x.op ≠ 11 ∧ (x.op = 2 ∨ x.op = 4) ∧ f = 2 ∧ u = num (-1)) ∨ (how % 3 = 1 ∧ x.op ≠ 11 ∧ ¬ (x.op = 2 ∨ x.op = 4) ∧ f = 2 ∧ u = num 1) ∨ (how % 3 ≠ 0 ∧ how % 3 ≠ 1 ∧ f = 3 ∧ u = .int .u64 17)) := by
  unfold change
  by_cases c0 : how % 3 = 0
  · simp only [if_pos c0]
    by_cases c1 : x.op = 1
    · simp only [if_pos c1]
      exact ⟨2, num 1, by omega, rfl, .inl ⟨c0, c1, rfl, rfl⟩⟩
    · simp only [if_neg c1]
      exact ⟨3, .int .u64 8, by omega, rfl, .inr (.inl ⟨c0, c1, rfl, rfl⟩)⟩
  · simp only [if_neg c0]
    by_cases c2 : how % 3 = 1
    · simp only [if_pos c2]
      by_cases c1 : x.op = 11
      · simp only [if_pos c1]
        exact ⟨3, .int .u64 1, by omega, rfl, .inr (.inr (.inl ⟨c2, c1, rfl, rfl⟩))⟩
      · simp only [if_neg c1]
        by_cases c3 : x.op = 2 ∨ x.op = 4
        · simp only [if_pos c3]
          exact ⟨2, num (-1), by omega, rfl, .inr (.inr (.inr (.inl ⟨c2, c1, c3, rfl, rfl⟩)))⟩
        · simp only [if_neg c3]
          exact ⟨2, num 1, by omega, rfl, .inr (.inr (.inr (.inr (.inl ⟨c2, c1, c3, rfl, rfl⟩))))⟩
    · simp only [if_neg c2]
      exact ⟨3, .int .u64 17, by omega, rfl, .inr (.inr (.inr (.inr (.inr ⟨c0, c2, rfl, rfl⟩))))⟩
set_option maxHeartbeats 16000000 in
set_option maxRecDepth 20000 in
theorem changed_law (a0 : Option Addr) (len0 cap0 : Nat) (z0 : List Bq) (a1 a2 a3 : Int) (W : World) (w0 : Bqs W a0 len0 cap0 z0) (w1 : (Lit.int .u8 a1).wf = true) (w2 : (Lit.int .u8 a2).wf = true) (w3 : (Lit.int .u8 a3).wf = true) (hT : TT W) :
    Calls Tryd.prog 4 #[.slice a0 len0 cap0, .int .u8 a1, .int .u8 a2, .int .u8 a3] W fun e w' => e = .returned (.bool true) ∧ Below W.heap.size W w' := by
  have HT := Lib.hid hT
  have HZ := Lib.hid w0
  obtain ⟨u10, u11⟩ := u8w2 w1
  obtain ⟨u20, u21⟩ := u8w2 w2
  obtain ⟨u30, u31⟩ := u8w2 w3
  clear hT w0 w1 w2 w3
  go_enter Tryd.func4, Tryd.ntmps4
  go_upto_region 3 with (first
    | (go_at_call 8
       refine (shown_any _).mono ?_
       rintro e wa ⟨rfl, hFa⟩)
    | (go_at_call 9
       refine (few_any a0 len0 cap0 z0 _ ?_).mono ?_
       · exact HZ.out.far hFa
       rintro e wb ⟨v, rfl, hG⟩))
  have hF := few_of hG (HZ.out.far hFa)
  have hSm : ∀ t ∈ gathB z0 len0, t.Sm wb := fun t ht => (hF.ok t ht).far hF.far
  obtain ⟨A, c, rfl, k1, k2, k3, k4, hBr⟩ := br_of hF.own hSm
  have hn8 := hF.le
  unfold maxLen at k2
  have hFW := hFa.trans hF.far (by simp)
  generalize gathB z0 len0 = bs at *
  obtain ⟨n, hn⟩ : ∃ n, bs.length = n := ⟨_, rfl⟩
  have HFew := Lib.hid hF
  rw [hn] at k1 hn8 k4 ⊢
  have HN := Lib.hid hn
  have HSm := Lib.hid hSm
  have HBr := Lib.hid hBr
  have HFa := Lib.hid hFa
  have HFW := Lib.hid hFW
  have HCh := Lib.hid (check_any (bs.map Bq.kb) n (by simp [hn]) (by omega) (sm_wb hSm) A c wb (HT.out.far hFW) hBr)
  obtain ⟨R, hR⟩ : ∃ R, check (bs.map Bq.kb) = R := ⟨_, rfl⟩
  rw [hR] at HCh
  have HR := Lib.hid hR
  clear hR hF hG hSm hBr hFW hn k3 hFa
  obtain ⟨r1, r2, r3⟩ := R
  have fin : ∀ wz, MM.Far [] W wz → Below W.heap.size W wz := fun wz f => f.below_nil
  have FIN := Lib.hid fin
  clear fin
  by_cases h3 : r3 = 0
  case neg =>
    have h3b : (r3 != 0) = true := by simpa using h3
    go_wp2_with (first
      | (go_at_call 10
         refine HCh.out.mono ?_
         rintro e wc ⟨rfl, hFc⟩))
    go_ret
    refine ⟨?_, FIN.out _ (HFW.out.trans hFc (by simp))⟩
    first | rfl | (simp; done) | (rw [h3b]; rfl)
  subst h3
  obtain ⟨hne, -, hall⟩ := check_zero (l := bs.map Bq.kb) (by rw [HR.out])
  have h0 : n ≠ 0 := fun h => hne (by rw [List.length_eq_zero_iff.1 (HN.out.trans h)]; rfl)
  have hall2 := Lib.hid hall
  clear hall
  have hnn : ((n : Int) == 0) = false := by simpa using h0
  obtain ⟨k, hk⟩ : ∃ k : Nat, a1 % (n : Int) = k := ⟨(a1 % (n : Int)).toNat, by have := Int.emod_nonneg a1 (show (n : Int) ≠ 0 by omega); omega⟩
  have hkn : k < n := by have := Int.emod_lt_of_pos a1 (show (0 : Int) < (n : Int) by omega); omega
  rcases k4 with ⟨_, h, _⟩ | ⟨g, rfl, hgb, hgl⟩
  · exact absurd h h0
  go_upto_region 8 with (first
    | (go_at_call 10
       refine HCh.out.mono ?_
       rintro e wc ⟨rfl, hFc⟩))
  have hFbc := HFew.out.far.trans hFc (by simp)
  have hOB := MM.own_far HFew.out.own hFc (by simp)
  have HFbc := Lib.hid hFbc
  have HOB := Lib.hid hOB
  clear hFc hFbc hOB HCh HSm
  have hkl : k < bs.length := by rw [HN.out]; exact hkn
  obtain ⟨t, ht⟩ : ∃ t, bs[k]? = some t := ⟨_, List.getElem?_eq_getElem hkl⟩
  have hsm := (HFew.out.ok t (List.mem_of_getElem? ht)).far HFbc.out
  have hwa := hall2.out k t.kb (by rw [List.getElem?_map, ht]; rfl)
  obtain ⟨d, hd, hw⟩ := way_of hwa
  obtain ⟨many, A', m, c', l⟩ := t
  have hm60 := hsm.sm
  have hml := hsm.len
  have hmc := hsm.le
  have hcm := hsm.max
  have hI := hsm.ir
  have h0m := hw.pos
  simp only [Bq.kb] at hm60 hml hmc hcm hI h0m
  rw [hml] at h0m
  unfold maxLen at hcm
  have hcell : wc.cell? ⟨g, k * 2 + 1, none⟩ = some (.slice A' m c') := by
    have hBc := (br_of HOB.out (fun t ht => (HFew.out.ok t ht).far HFbc.out))
    obtain ⟨A2, c2, e2, _, _, _, _, hBr2⟩ := hBc
    injection e2 with e2 _ e3
    obtain ⟨b, o, A3, c3, e4, _, _, _, hc1, _⟩ := hBr2 k _ (by rw [List.getElem?_map, ht]; rfl)
    have hown := (@World.ownsRow.cells _ _ _ _ _ _ _ HOB.out) rfl (k * 2 + 1) (.slice A' m c') (flatB_at bs k _ ht 1 _ rfl)
    rw [MM.head_add] at hown
    exact hown
  have HML := Lib.hid hml
  have HI := Lib.hid hI
  have HTk := Lib.hid ht
  have hgc : g < wc.heap.size := MR.cell_lt hcell
  clear hsm hwa hd hw hml hI ht hkl
  go_wp2_with (fail)
  have F0 : Hid (MM.Far [] wc wc) := Lib.hid (MM.Far.refl _ _)
  have HO0 : Hid (wc.ownsRow wc.heap.size 38 4 (.slice none 0 0) 0 (flatI (l.take 0))) := Lib.hid (MO.none_ _ _ _ _)
  clear hcell
  rw [hk]
  go_loopw [15, 54] (fun s15 s54 wr => ∃ i : Nat, i ≤ m ∧ s54 = num i ∧ Hid (wr.ownsRow wc.heap.size 38 4 s15 i (flatI (l.take i))) ∧ Hid (MM.Far [] wc wr)) (fun _ s54 _ => m - (intOf s54).toNat)
  case atStart => exact ⟨0, by omega, rfl, HO0, F0⟩
  case round =>
    obtain ⟨i, hi, rfl, HO, HFr⟩ := hrel
    by_cases hlt : i < m
    · have him : i < l.length := by rw [HML.out]; exact hlt
      obtain ⟨b2, o2, rfl, -, hb2, e0, e1, e2, e3⟩ := (HI.out.far HFr.out (by simp)).at him
      have HTN : Hid (l.take (i + 1) = l.take i ++ [l[i]]) := Lib.hid (List.take_succ_eq_append_getElem him)
      generalize l[i] = x at *
      obtain ⟨op, xa, xb, xw⟩ := x
      simp only at e0 e1 e2 e3
      have s1 := HFr.out.size
      have HGA := Lib.hid ((HO.out.alloc (.cells #[.int .u8 op, .int .i64 xa, .int .i64 xb, .int .u64 xw] 38)).alloc (.cells #[.int .u8 op, .int .i64 xa, .int .i64 xb, .int .u64 xw] 38))
      have HGO := Lib.hid (MM.own_lt HO.out)
      have HRw := Lib.hid (MM.Row.new (wr.alloc (.cells #[.int .u8 op, .int .i64 xa, .int .i64 xb, .int .u64 xw] 38)) 38 (cel ⟨op, xa, xb, xw⟩))
      have HFA := Lib.hid ((HFr.out.alloc (.cells #[.int .u8 op, .int .i64 xa, .int .i64 xb, .int .u64 xw] 38)).alloc (.cells #[.int .u8 op, .int .i64 xa, .int .i64 xb, .int .u64 xw] 38))
      clear HO
      go_wp2_with (first
        | (refine MO.wpList_append _ ?_ (.tmp 58) (.tmp 60) 29 ?_ wc.heap.size 38 _ 4 32 inss_slice ins_info rfl (by omega) u15 i (flatI (l.take i)) ?_ HGA.out (some ⟨wr.heap.size + 1, 0, none⟩) 1 1 (cel ⟨op, xa, xb, xw⟩) ?_ rfl (fun h => by cases h) [] ?_ (cel_one _) (by simp only [maxLen]; omega) (by omega) (by simp; omega) ?_
           · rfl
           · rfl
           · rfl
           · rfl
           · have := HRw.out
             rw [World.size_alloc] at this
             exact MM.Src.row this (by simp) _ (fun j u hu => hu)
           intro v1 wG hv1 hg1 hat1))
      go_roundw
      case rel =>
        refine ⟨i + 1, by omega, by go_num, Lib.hid (by rw [HTN.out, flatI_snoc]; exact hv1), Lib.hid ?_⟩
        · refine HFA.out.trans (MM.Far.of_grown (S := u15.ownBlock.toList) hg1 (by intro b1 hb1 _; simp [hb1])) (fun b1 hb1 _ => ?_)
          have := HGO.out b1 (by simpa using hb1)
          omega
      case measure => simp [intOf]; omega
    · obtain rfl : i = m := by omega
      have hO := HO.out
      rw [List.take_of_length_le (by rw [HML.out]; exact Nat.le_refl _)] at hO
      obtain ⟨A2, c2, hu, hil0, q1, q2, _, q4, hI2⟩ := ir_own hO
      clear hil0
      rcases q4 with ⟨_, h, _⟩ | ⟨g2, rfl, hg2, hg2l⟩
      · exact absurd h (by omega)
      subst hu
      have HO2 := Lib.hid hO
      unfold maxLen at q2
      clear hO HO hI2
      obtain ⟨j, hj⟩ : ∃ j : Nat, a2 % (i : Int) = j := ⟨(a2 % (i : Int)).toNat, by have := Int.emod_nonneg a2 (show (i : Int) ≠ 0 by omega); omega⟩
      have hji : j < i := by have := Int.emod_lt_of_pos a2 (show (0 : Int) < (i : Int) by omega); omega
      have hm0 : ((i : Int) == 0) = false := by simp; omega
      have hjl : j < l.length := by rw [HML.out]; exact hji
      obtain ⟨x, hx⟩ : ∃ x, l[j]? = some x := ⟨_, List.getElem?_eq_getElem hjl⟩
      have HX := Lib.hid hx
      have hcl : ∀ (f : Nat) (u : Value), (cel x)[f]? = some u → wr.cell? ⟨g2, j * 4 + f, none⟩ = some u := by
        intro f u hu
        have hown := (@World.ownsRow.cells _ _ _ _ _ _ _ HO2.out) rfl (j * 4 + f) u (flatI_at l j x hx f u hu)
        rw [MM.head_add] at hown
        exact hown
      have hfz : ∀ f, wr.frozen? ⟨g2, f, none⟩ = false := fun f => World.ownsRow.frozenAt HO2.out f
      obtain ⟨f, uu, hf4, hfu, hcs⟩ := change_cel a3 x
      have h00 : wr.cell? ⟨g2, j * 4, none⟩ = some (.int .u8 x.op) := by simpa using hcl 0 _ rfl
      have h2f : wr.cell? ⟨g2, j * 4 + 2, none⟩ = some (.int .i64 x.b) := hcl 2 _ rfl
      have h3f : wr.cell? ⟨g2, j * 4 + 3, none⟩ = some (.int .u64 x.w) := hcl 3 _ rfl
      have hz2 := hfz (j * 4 + 2)
      have hz3 := hfz (j * 4 + 3)
      have hgw : g < wr.heap.size := Nat.lt_of_lt_of_le hgc HFr.out.size
      have HFU := Lib.hid hfu
      have HCS := Lib.hid hcs
      clear hcl hfz hfu hcs hx
      obtain ⟨xo, hxo⟩ : ∃ xo, x.op = xo := ⟨_, rfl⟩
      rw [hxo] at h00 HCS
      clear hxo
      go_upto_block 2 with (fail)
      go_cut [] (fun wx => wx = wr.setCell ⟨g2, j * 4 + f, none⟩ uu)
      case first =>
        rcases HCS.out with ⟨c0, rfl, rfl, rfl⟩ | ⟨c0, c1, rfl, rfl⟩ | ⟨c0, rfl, rfl, rfl⟩ | ⟨c0, c1, c2, rfl, rfl⟩ | ⟨c0, c1, c2, rfl, rfl⟩ | ⟨c0, c1, rfl, rfl⟩
        · have b0 : (a3 % 3 == 0) = true := by simpa using c0
          clear c0 HCS
          go_wp2_with (fail)
          go_meet
          rfl
        · have b0 : (a3 % 3 == 0) = true := by simpa using c0
          have b1 : (xo == 1) = false := by simpa using c1
          clear c0 c1 HCS
          go_wp2_with (fail)
          go_meet
          rfl
        · have b0 : (a3 % 3 == 0) = false := by simp; omega
          have b1 : (a3 % 3 == 1) = true := by simpa using c0
          clear c0 HCS
          go_wp2_with (fail)
          go_meet
          rfl
        · have b0 : (a3 % 3 == 0) = false := by simp; omega
          have b1 : (a3 % 3 == 1) = true := by simpa using c0
          have b2 : (xo == 11) = false := by simpa using c1
          clear c0 c1 HCS
          rcases c2 with rfl | rfl
          · go_wp2_with (fail)
            go_meet
            rfl
          · go_wp2_with (fail)
            go_meet
            rfl
        · have b0 : (a3 % 3 == 0) = false := by simp; omega
          have b1 : (a3 % 3 == 1) = true := by simpa using c0
          have b2 : (xo == 11) = false := by simpa using c1
          have b3 : (xo == 2) = false := by simp; omega
          have b4 : (xo == 4) = false := by simp; omega
          clear c0 c1 c2 HCS
          go_wp2_with (fail)
          go_meet
          rfl
        · have b0 : (a3 % 3 == 0) = false := by simpa using c0
          have b1 : (a3 % 3 == 1) = false := by simpa using c1
          have b2 : (a3 % 3 == 2) = true := by simp; omega
          clear c0 c1 HCS
          go_wp2_with (fail)
          go_meet
          rfl
      case rest =>
        subst hcut
        have hst := HO2.out.stored (j * 4 + f) uu
        have hO5 := hst.1
        rw [flatI_set l j x (change a3 x) f uu HX.out hf4 HFU.out] at hO5
        have hF5 : MM.Far [] wa (wr.setCell ⟨g2, j * 4 + f, none⟩ uu) := ((HFbc.out.trans HFr.out (by simp)).setCell (fun h => by have := HFbc.out.size; simp at h; omega) uu)
        have hOB5 : (wr.setCell ⟨g2, j * 4 + f, none⟩ uu).ownsRow wa.heap.size 31 2 (.slice (some ⟨g, 0, none⟩) bs.length c) bs.length (flatB bs) := MM.own_far (MM.own_far HOB.out HFr.out (by simp)) ((MM.Far.refl [g2] wr).setCell (by simp) uu) (fun b hb => by simp [Value.ownBlock] at hb; simp; omega)
        have hfz : (wr.setCell ⟨g2, j * 4 + f, none⟩ uu).frozen? ⟨g, k * 2 + 1, none⟩ = false := World.ownsRow.frozenAt hOB5 _
        have hcB : (wr.setCell ⟨g2, j * 4 + f, none⟩ uu).cell? ⟨g, k * 2 + 1, none⟩ = some (.slice A' i c') := by
          have hown := (@World.ownsRow.cells _ _ _ _ _ _ _ hOB5) rfl (k * 2 + 1) (.slice A' i c') (flatB_at bs k _ HTk.out 1 _ rfl)
          rw [MM.head_add] at hown
          exact hown
        have hgl5 : g < (wr.setCell ⟨g2, j * 4 + f, none⟩ uu).heap.size := MR.cell_lt hcB
        generalize wr.setCell ⟨g2, j * 4 + f, none⟩ uu = w5 at *
        have hst6 := (hOB5.stored (k * 2 + 1) (.slice (some ⟨g2, 0, none⟩) i c2)).1
        rw [flatB_set bs k _ ⟨many, some ⟨g2, 0, none⟩, i, c2, l.set j (change a3 x)⟩ _ HTk.out rfl rfl] at hst6
        have hgne : g2 ≠ g := by omega
        have hO6 : (w5.setCell ⟨g, k * 2 + 1, none⟩ (.slice (some ⟨g2, 0, none⟩) i c2)).ownsRow wc.heap.size 38 4 (.slice (some ⟨g2, 0, none⟩) i c2) i (flatI (l.set j (change a3 x))) :=
          MM.own_far hO5 ((MM.Far.refl [g] w5).setCell (by simp) _) (fun b hb => by simp [Value.ownBlock] at hb; simp; omega)
        have hF6 : MM.Far [] wa (w5.setCell ⟨g, k * 2 + 1, none⟩ (.slice (some ⟨g2, 0, none⟩) i c2)) := hF5.setCell (fun h => by simp at h; omega) _
        have hlen' : (bs.set k ⟨many, some ⟨g2, 0, none⟩, i, c2, l.set j (change a3 x)⟩).length = bs.length := by simp
        have hwfx : Wf (change a3 x) := by
          obtain ⟨t1, ht1⟩ : ∃ t1, bs[k]? = some t1 := ⟨_, HTk.out⟩
          have hwx : Wf x := (HFew.out.ok _ (List.mem_of_getElem? HTk.out)).wf x (List.mem_of_getElem? HX.out)
          exact change_wf a3 hwx
        have hSm6 : ∀ t ∈ bs.set k ⟨many, some ⟨g2, 0, none⟩, i, c2, l.set j (change a3 x)⟩, t.Sm (w5.setCell ⟨g, k * 2 + 1, none⟩ (.slice (some ⟨g2, 0, none⟩) i c2)) := by
          intro t ht
          rcases List.mem_or_eq_of_mem_set ht with ht | rfl
          · exact (HFew.out.ok t ht).far hF6
          · obtain ⟨A3, c3, e3, _, _, q3, _, _, hI3⟩ := ir_own hO6
            injection e3 with e3 _ e4
            subst e3
            refine ⟨hm60, by simp [HML.out], q1, by unfold maxLen; exact q2, hI3, fun y hy => ?_⟩
            rcases List.mem_or_eq_of_mem_set hy with hy | rfl
            · exact (HFew.out.ok _ (List.mem_of_getElem? HTk.out)).wf y hy
            · exact hwfx
        rw [← hlen'] at hst6
        obtain ⟨A3, c3, e3, _, _, _, _, hBr6⟩ := br_of hst6 hSm6
        injection e3 with e3 _ e4
        subst e3
        have hck := changed (l := bs.map Bq.kb) (k := k) (j := j) (b := ⟨many, l⟩) (x := x) (by rw [HR.out]) (by rw [List.getElem?_map, HTk.out]; rfl) HX.out a3
        have hmap : (bs.set k ⟨many, some ⟨g2, 0, none⟩, i, c2, l.set j (change a3 x)⟩).map Bq.kb = (bs.map Bq.kb).set k ⟨many, l.set j (change a3 x)⟩ := by rw [List.map_set]; rfl
        have HC6 := Lib.hid (check_any _ n (by rw [List.length_map, hlen', HN.out]) (by omega) (sm_wb hSm6) (some ⟨g, 0, none⟩) c _ (HT.out.far (HFa.out.trans hF6 (by simp))) hBr6)
        rw [hmap, hck] at HC6
        have HF6 := Lib.hid (HFa.out.trans hF6 (by simp))
        clear hst hO5 hF5 hOB5 hst6 hO6 hF6 hlen' hwfx hSm6 hBr6 hck hmap e4
        go_wp2_with (first
          | (go_at_call 10
             refine HC6.out.mono ?_
             rintro e w7 ⟨rfl, hF7⟩))
        go_ret
        refine ⟨?_, FIN.out _ (HF6.out.trans hF7 (by simp))⟩
        first | rfl | (simp; done)
end KW
end Go.Proofs.YthhibcfljekibaaDoor
