/-
  The walk of CodeRows: blocks are looked at one by one; the first that is wrong is told, whatever follows. Conditions: the arguments' readings, the program's tables.
-/
import Derived.Test.YthhibcfljekibaaDoorCodeOwn
import Derived.Deep.DeepCutAuto
import Derived.Deep.RegionHeld3
namespace Go.Proofs.YthhibcfljekibaaDoor
open Go.RowKit Go.ChangeShapes Go.WideShapes Go.Deep
set_option linter.unusedVariables false
namespace KW
open KP
theorem u8w3 {x : Int} (h : (Lit.int .u8 x).wf = true) : 0 ≤ x ∧ x ≤ 255 := by
  simp [Lit.wf, IntKind.min, IntKind.max, IntKind.signed, IntKind.bits] at h
  omega
/-- Does an instruction name the block behind the last one? -/
def beyB (l : List Kb) (k at' : Nat) : Bool := match l[k]? with
  | none => false
  | some b => match b.l[at']? with
    | none => false
    | some x => x.op == 10 && x.a == (l.length : Int)
theorem firstBad_lt {n : Int} : ∀ (l : List Ki) (d : List Int) (i j : Nat), firstBad n l d i = some j → j < i + l.length := by
  intro l
  induction l with
  | nil => intro d i j h; cases d <;> cases h
  | cons y r ih =>
    intro d i j h
    cases d with
    | nil => cases h
    | cons e d =>
      unfold firstBad at h
      split at h
      · have := ih _ _ _ h; simp; omega
      · injection h with h; simp; omega
theorem wrong_le {n : Int} {b : Kb} {m : Int} {k : Nat} (h : wrongAt n b m = some k) : k ≤ b.l.length := by
  unfold wrongAt at h
  split at h
  · injection h with h; omega
  split at h
  · injection h with h; omega
  split at h
  · injection h with h; omega
  split at h
  · injection h with h; omega
  · have := firstBad_lt _ _ _ _ h; omega
theorem bey_of {l : List Kb} {k at' : Nat} (h : Beyond l k at') : beyB l k at' = true := by
  obtain ⟨b, x, h1, h2, h3, h4⟩ := h
  unfold beyB
  rw [h1]
  simp only
  rw [h2]
  simp [h3, h4]
set_option maxHeartbeats 4000000 in
set_option maxRecDepth 20000 in
theorem beyond_any (l : List Kb) (n : Nat) (hn : l.length = n) (h9 : n < 1000000000) (hl : ∀ b ∈ l, b.l.length < 1000000000) (k at' : Nat) (hk : k < 1000000000) (ha : at' < 1000000000) (A : Option Addr) (c : Nat) (w : World) (hB : Br w [] A l) :
    Calls Tryd.prog 12 #[.slice A n c, num k, num at'] w fun e w' => e = .returned (.bool (beyB l k at')) ∧ w = w' := by
  have HBy : Hid (beyB l k at' = match l[k]? with
    | none => false
    | some b => match b.l[at']? with
      | none => false
      | some x => x.op == 10 && x.a == (l.length : Int)) := Lib.hid rfl
  generalize beyB l k at' = R at *
  have HN := Lib.hid hn
  have HB := Lib.hid hB
  have HL := Lib.hid hl
  clear hn hB hl
  go_enter Tryd.func12, Tryd.ntmps12
  by_cases h1 : k < n
  · have hkl : k < l.length := by rw [HN.out]; exact h1
    obtain ⟨b, o, A', c', rfl, -, hb, c0, c1, k5, k6, hI⟩ := HB.out.at hkl
    have h5 := HBy.out
    rw [List.getElem?_eq_getElem hkl] at h5
    have hbl := HL.out _ (List.getElem_mem hkl)
    generalize l[k] = x at *
    obtain ⟨many, xl⟩ := x
    simp only at c0 c1 hI h5 hbl
    obtain ⟨m, hm⟩ : ∃ m, xl.length = m := ⟨_, rfl⟩
    rw [hm] at c1 k5 hbl
    have HM := Lib.hid hm
    have H5 := Lib.hid h5
    have HI := Lib.hid hI
    unfold maxLen at k6
    clear hm h5 hI HBy hkl
    by_cases h2 : at' < m
    · have hal : at' < xl.length := by rw [HM.out]; exact h2
      obtain ⟨b2, o2, rfl, -, hb2, e0, e1, e2, e3⟩ := HI.out.at hal
      have h6 := H5.out
      rw [List.getElem?_eq_getElem hal, HN.out] at h6
      generalize xl[at'] = y at *
      obtain ⟨op, xa, xb, xw⟩ := y
      simp only at e0 e1 e2 e3 h6
      have H6 := Lib.hid h6
      clear h6 H5 hal
      by_cases h10 : op = 10
      · subst h10
        go_wp2_with (fail)
        all_goals
          go_ret
          refine ⟨?_, rfl⟩
          rw [H6.out]
          first | rfl | (simp_all; done)
      · have e10 : (op == 10) = false := by simpa using h10
        go_wp2_with (fail)
        go_ret
        refine ⟨?_, rfl⟩
        rw [H6.out, e10]; rfl
    · have h6 := H5.out
      rw [List.getElem?_eq_none (by rw [HM.out]; omega)] at h6
      have H6 := Lib.hid h6
      clear h6 H5
      go_wp2_with (fail)
      go_ret
      refine ⟨?_, rfl⟩
      rw [H6.out]; rfl
  · have h5 := HBy.out
    rw [List.getElem?_eq_none (by rw [HN.out]; omega)] at h5
    have H5 := Lib.hid h5
    clear h5 HBy
    go_wp2_with (fail)
    go_ret
    refine ⟨?_, rfl⟩
    rw [H5.out]; rfl
set_option maxHeartbeats 16000000 in
set_option maxRecDepth 20000 in
theorem rows_law (a0 : Option Addr) (len0 cap0 : Nat) (z0 : List Bq) (a1 : Int) (W : World) (w0 : Bqs W a0 len0 cap0 z0) (w1 : (Lit.int .u8 a1).wf = true) (hT : TT W) :
    Calls Tryd.prog 5 #[.slice a0 len0 cap0, .int .u8 a1] W fun e w' => e = .returned (.bool true) ∧ Below W.heap.size W w' := by
  have HT := Lib.hid hT
  have HZ := Lib.hid w0
  obtain ⟨u10, u11⟩ := u8w3 w1
  clear hT w0 w1
  go_enter Tryd.func5, Tryd.ntmps5
  go_upto_region 3 with (first
    | (go_at_call 8
       refine (shown_any _).mono ?_
       rintro e wa ⟨rfl, hFa⟩)
    | (go_at_call 9
       refine (few_any a0 len0 cap0 z0 _ ?_).mono ?_
       · exact HZ.out.far hFa
       rintro e wb ⟨v, rfl, hG⟩))
  have hF := few_of hG (HZ.out.far hFa)
  have hSm : ∀ t ∈ gathB z0 len0, t.Sm wb := fun t ht => (hF.ok t ht).far hF.far
  obtain ⟨A, c, rfl, k1, k2, k3, k4, hBr⟩ := br_of hF.own hSm
  have hn8 := hF.le
  unfold maxLen at k2
  have hFW := hFa.trans hF.far (by simp)
  generalize gathB z0 len0 = bs at *
  obtain ⟨n, hn⟩ : ∃ n, bs.length = n := ⟨_, rfl⟩
  have HFew := Lib.hid hF
  rw [hn] at k1 hn8 k4 ⊢
  have HN := Lib.hid hn
  have HSm := Lib.hid hSm
  have HBr := Lib.hid hBr
  have HFa := Lib.hid hFa
  have HFW := Lib.hid hFW
  have HCh := Lib.hid (check_any (bs.map Bq.kb) n (by simp [hn]) (by omega) (sm_wb hSm) A c wb (HT.out.far hFW) hBr)
  obtain ⟨R, hR⟩ : ∃ R, check (bs.map Bq.kb) = R := ⟨_, rfl⟩
  rw [hR] at HCh
  have HR := Lib.hid hR
  clear hR hF hG hSm hBr hFW hn k3 hFa
  obtain ⟨r1, r2, r3⟩ := R
  have fin : ∀ wz, MM.Far [] W wz → Below W.heap.size W wz := fun wz f => f.below_nil
  have FIN := Lib.hid fin
  clear fin
  by_cases h0 : n = 0
  · subst h0
    have hr : (r1, r2, r3) = ((0 : Int), (0 : Int), (1 : Int)) := by
      rw [← HR.out, List.length_eq_zero_iff.1 HN.out]; rfl
    injection hr with hr1 hr
    injection hr with hr2 hr3
    subst hr1; subst hr2; subst hr3
    go_wp2_with (first
      | (go_at_call 10
         refine HCh.out.mono ?_
         rintro e wc ⟨rfl, hFc⟩))
    go_ret
    exact ⟨rfl, FIN.out _ (HFW.out.trans hFc (by simp))⟩
  have hnn : ((n : Int) == 0) = false := by simpa using h0
  have hne : bs.map Bq.kb ≠ [] := fun h => h0 (by rw [← HN.out]; simpa using congrArg List.length h)
  obtain ⟨k, hk⟩ : ∃ k : Nat, a1 % (n : Int) = k := ⟨(a1 % (n : Int)).toNat, by have := Int.emod_nonneg a1 (show (n : Int) ≠ 0 by omega); omega⟩
  have hkn : k < n := by have := Int.emod_lt_of_pos a1 (show (0 : Int) < (n : Int) by omega); omega
  rcases k4 with ⟨_, h, _⟩ | ⟨g, rfl, hgb, hgl⟩
  · exact absurd h h0
  go_upto_region 7 with (first
    | (go_at_call 10
       refine HCh.out.mono ?_
       rintro e wd ⟨rfl, hFc⟩))
  (try rw [hk])
  have HFbc := Lib.hid (HFew.out.far.trans hFc (by simp))
  have HOB := Lib.hid (MM.own_far HFew.out.own hFc (by simp))
  have HFWc := Lib.hid (HFW.out.trans hFc (by simp))
  have HBrc := Lib.hid (HBr.out.far hFc (by simp))
  clear hFc
  have hkl : k < bs.length := by rw [HN.out]; exact hkn
  obtain ⟨t, ht⟩ : ∃ t, bs[k]? = some t := ⟨_, List.getElem?_eq_getElem hkl⟩
  have hsmk := HFew.out.ok t (List.mem_of_getElem? ht)
  obtain ⟨many, A', m, c', l⟩ := t
  have HTk := Lib.hid ht
  have hown := (@World.ownsRow.cells _ _ _ _ _ _ _ HOB.out) rfl
  have hc0 : wd.cell? ⟨g, k * 2, none⟩ = some (num many) := by
    have := hown (k * 2 + 0) _ (flatB_at bs k _ ht 0 _ rfl)
    rw [MM.head_add] at this
    exact this
  have hc1 : wd.cell? ⟨g, k * 2 + 1, none⟩ = some (.slice A' m c') := by
    have := hown (k * 2 + 1) _ (flatB_at bs k _ ht 1 _ rfl)
    rw [MM.head_add] at this
    exact this
  have hgc : g < wd.heap.size := MR.cell_lt hc0
  have HSS : Hid (∀ w', MM.Far [] wd w' → w'.cell? ⟨g, k * 2, none⟩ = some (num many) ∧ w'.cell? ⟨g, k * 2 + 1, none⟩ = some (.slice A' m c')) := Lib.hid (fun w' f => ⟨(f.cell (p := ⟨g, k * 2, none⟩) hgc (by simp)).trans hc0, (f.cell (p := ⟨g, k * 2 + 1, none⟩) hgc (by simp)).trans hc1⟩)
  have HSZ : Hid (∀ w', MM.Far [] wd w' → wd.heap.size ≤ w'.heap.size) := Lib.hid (fun w' f => f.size)
  have HSX : Hid (∀ w', MM.Far [] wd w' → MM.Src w' [] (some ⟨g, 0, none⟩) (flatB bs)) := Lib.hid (fun w' f => by
    obtain ⟨A5, c5, e5, _, _, _, k3, _⟩ := MO.form HOB.out
    injection e5 with e5
    subst e5
    exact (k3 [] (fun _ _ => by simp)).far f (by simp))
  have HBL : Hid ((flatB bs).length = n * 2) := Lib.hid (by rw [flatB_len, HN.out])
  have HB1 : Hid (∀ u ∈ flatB bs, u.oneCell' = true) := Lib.hid (fun u hu => by
    unfold flatB at hu
    obtain ⟨x, _, hx⟩ := List.mem_flatMap.1 hu
    exact cellsB_one x u hx)
  have HSB : Hid (∀ w1 w2, MM.Row w1 (wd.heap.size + 1) 31 [num many, .slice A' m c'] → w1.grownBy w2 (Value.slice (some ⟨wd.heap.size, 0, none⟩) 0 0).ownBlock → MM.Src w2 [] (some ⟨wd.heap.size + 1, 0, none⟩) (Bq.cells ⟨many, A', m, c', l⟩)) := Lib.hid (fun w1 w2 h f => by
    have hF := MM.Far.of_grown (S := [wd.heap.size]) f (by intro b1 hb1 _; simp [Value.ownBlock] at hb1; simp [hb1])
    exact MM.Src.row (h.far hF (by simp)) (by simp) _ (fun j u hu => hu))
  have HSB2 : Hid (∀ w1 w2, MM.Row w1 wd.heap.size 31 [num many, .slice A' m c'] → w1.grownBy w2 (Value.slice (some ⟨wd.heap.size + 1, 0, none⟩) 0 0).ownBlock → MM.Src w2 [] (some ⟨wd.heap.size, 0, none⟩) (Bq.cells ⟨many, A', m, c', l⟩)) := Lib.hid (fun w1 w2 h f => by
    have hF := MM.Far.of_grown (S := [wd.heap.size + 1]) f (by intro b1 hb1 _; simp [Value.ownBlock] at hb1; simp [hb1])
    exact MM.Src.row (h.far hF (by simp)) (by simp) _ (fun j u hu => hu))
  have HSM3 : Hid (∀ t ∈ bs ++ [(⟨many, A', m, c', l⟩ : Bq)], ∀ w', MM.Far [] wd w' → t.Sm w') := Lib.hid (fun t ht2 w' f => by
    have hm : t ∈ bs := by
      rcases List.mem_append.1 ht2 with h | h
      · exact h
      · simp at h; subst h; exact List.mem_of_getElem? HTk.out
    exact (HFew.out.ok t hm).far (HFbc.out.trans f (by simp)))
  have HL3 : Hid ((bs ++ [(⟨many, A', m, c', l⟩ : Bq)]).length = n + 1) := Lib.hid (by simp [HN.out])
  have HWB3 : Hid (∀ b ∈ (bs ++ [(⟨many, A', m, c', l⟩ : Bq)]).map Bq.kb, Wb b) := Lib.hid (sm_wb (w := wd) (fun t ht2 => HSM3.out t ht2 wd (MM.Far.refl _ _)))
  obtain ⟨Q, hQ⟩ : ∃ Q, check ((bs ++ [(⟨many, A', m, c', l⟩ : Bq)]).map Bq.kb) = Q := ⟨_, rfl⟩
  have HQ := Lib.hid hQ
  obtain ⟨q1, q2, q3⟩ := Q
  clear hkl ht hsmk hown hc0 hc1 hQ
  go_cut [11, 12, 13] (fun s11 s12 s13 wx => s11 = num q1 ∧ s12 = num q2 ∧ s13 = num q3 ∧ Hid (MM.Far [] wd wx))
  case first =>
    first | refine wp_region_noPanic ?_ | skip
    refine wp_region_held_drew (S := (fun w' : World => w'.cell? ⟨g, k * 2, none⟩ = some (num many) ∧ w'.cell? ⟨g, k * 2 + 1, none⟩ = some (.slice A' m c'))) (by kernel_rfl) (HSS.out _ ((MM.Far.refl [] wd).drew)) (fun hHeld => ?_)
    have HFD : Hid (MM.Far [] wd wd.drew) := Lib.hid ((MM.Far.refl [] wd).drew)
    refine wpAnyH_take (i := 1) (oi := { dst := some 41, op := Op.move (Operand.tmp 6), type := 22, pos := "law.go:138", after := #[], guard := none }) (v := ?w1) rfl (by kernel_rfl) (by kernel_rfl) (by kernel_rfl) (fun _ _ _ h => h) (Or.inl ⟨by rfl, ?hz1⟩) hHeld ?re1
    case hz1 => (intro w hSw; obtain ⟨hS0, hS1⟩ := hSw; go_simp; try (with_reducible rfl))
    try simp only [Act.put, List.setIfInBounds_toArray, List.set_cons_zero, List.set_cons_succ]
    refine wpAnyH_take (i := 3) (oi := { dst := some 43, op := Op.move (Operand.tmp 6), type := 22, pos := "law.go:138", after := #[], guard := none }) (v := ?w2) rfl (by kernel_rfl) (by kernel_rfl) (by kernel_rfl) (fun _ _ _ h => h) (Or.inl ⟨by rfl, ?hz2⟩) hHeld ?re2
    case hz2 => (intro w hSw; obtain ⟨hS0, hS1⟩ := hSw; go_simp; try (with_reducible rfl))
    try simp only [Act.put, List.setIfInBounds_toArray, List.set_cons_zero, List.set_cons_succ]
    refine wpAnyH_take (i := 4) (oi := { dst := some 44, op := Op.move (Operand.tmp 10), type := 3, pos := "law.go:138", after := #[], guard := none }) (v := ?w3) rfl (by kernel_rfl) (by kernel_rfl) (by kernel_rfl) (fun _ _ _ h => h) (Or.inl ⟨by rfl, ?hz3⟩) hHeld ?re3
    case hz3 => (intro w hSw; obtain ⟨hS0, hS1⟩ := hSw; go_simp; try (with_reducible rfl))
    try simp only [Act.put, List.setIfInBounds_toArray, List.set_cons_zero, List.set_cons_succ]
    refine wpAnyH_take (i := 5) (oi := { dst := some 45, op := Op.indexAddr 22 (Operand.tmp 43) (Operand.tmp 44), type := 0, pos := "law.go:138", after := #[{ on := 3, ground := Ground.data }, { on := 4, ground := Ground.data }], guard := none }) (v := ?w4) rfl (by kernel_rfl) (by kernel_rfl) (by kernel_rfl) (fun _ _ _ h => h) (Or.inl ⟨by rfl, ?hz4⟩) hHeld ?re4
    case hz4 => (intro w hSw; obtain ⟨hS0, hS1⟩ := hSw; go_simp; try (with_reducible rfl))
    try simp only [Act.put, List.setIfInBounds_toArray, List.set_cons_zero, List.set_cons_succ]
    refine wpAnyH_take (i := 6) (oi := { dst := some 46, op := Op.load 31 (Operand.tmp 45), type := 31, pos := "law.go:138", after := #[{ on := 5, ground := Ground.data }], guard := none }) (v := ?w5) rfl (by kernel_rfl) (by kernel_rfl) (by kernel_rfl) (fun _ _ _ h => h) (Or.inl ⟨by rfl, ?hz5⟩) hHeld ?re5
    case hz5 => (intro w hSw; obtain ⟨hS0, hS1⟩ := hSw; go_simp; try (with_reducible rfl))
    try simp only [Act.put, List.setIfInBounds_toArray, List.set_cons_zero, List.set_cons_succ]
    refine wpAnyH_ready (rs := [0, 7]) (by kernel_rfl) (by simp) ?_
    refine AllReadyH.cons (o := { dst := some 40, op := Op.buildSlice 22 0 #[], type := 22, pos := "law.go:138", after := #[], guard := none }) rfl (fun K hK => ?_) (AllReadyH.cons (o := { dst := some 47, op := Op.buildSlice 22 1 #[(0, Operand.tmp 46)], type := 22, pos := "law.go:138", after := #[{ on := 6, ground := Ground.data }], guard := none }) rfl (fun K hK => ?_) AllReadyH.nil)
    · go_simp
      have HFA := Lib.hid (HFD.out.alloc (.cells #[] 31))
      have HO0 := MM.Row.new (wd.drew) 31 []
      (try rw [World.size_alloc] at HO0)
      have HO0 := Lib.hid HO0
      refine hK.out _ _ (HSS.out _ HFA.out) (fun hHeld => ?_)
      clear hK K
      try simp only [Act.put, List.setIfInBounds_toArray, List.set_cons_zero, List.set_cons_succ]
      refine wpAnyH_ready (rs := [2, 7]) (by kernel_rfl) (by simp) ?_
      refine AllReadyH.cons (o := { dst := some 42, op := Op.call { callee := Callee.builtin Builtin.append, args := #[Operand.tmp 40, Operand.tmp 41], argTypes := #[22, 22] }, type := 22, pos := "law.go:138", after := #[{ on := 0, ground := Ground.data }, { on := 1, ground := Ground.data }], guard := none }) rfl (fun K hK => ?_) (AllReadyH.cons (o := { dst := some 47, op := Op.buildSlice 22 1 #[(0, Operand.tmp 46)], type := 22, pos := "law.go:138", after := #[{ on := 6, ground := Ground.data }], guard := none }) rfl (fun K hK => ?_) AllReadyH.nil)
      · refine MO.step_append ?_ (.tmp 40) (.tmp 41) 22 ?_ wd.heap.size 31 _ 2 32 blocks_slice block_info rfl (by omega) (.slice (some ⟨wd.heap.size, 0, none⟩) 0 0) 0 [] ?_ (MO.of_row HO0.out (Nat.le_refl _) rfl (by unfold maxLen; omega)) (some ⟨g, 0, none⟩) n c (flatB bs) ?_ HBL.out (fun h => by cases h) [] (HSX.out _ HFA.out) HB1.out (by simp only [maxLen]; omega) (by omega) (HSZ.out _ HFA.out) ?_
        · rfl
        · rfl
        · rfl
        · rfl
        intro v2 w2 hv2 hg2 ha2
        have HV2 := Lib.hid hv2
        have HF2 := Lib.hid (HFA.out.trans (MM.Far.of_grown (S := [wd.heap.size]) hg2 (by intro b1 hb1 _; simp [Value.ownBlock] at hb1; simp [hb1])) (fun b1 h1 h2 => by have := (HSZ.out _ HFA.out); simp at h1; omega))
        have HGR2 := Lib.hid hg2
        clear hv2 hg2 ha2
        refine hK.out _ _ (HSS.out _ HF2.out) (fun hHeld => ?_)
        clear hK K
        try simp only [Act.put, List.setIfInBounds_toArray, List.set_cons_zero, List.set_cons_succ]
        refine wpAnyH_ready (rs := [7]) (by kernel_rfl) (by simp) ?_
        refine AllReadyH.cons (o := { dst := some 47, op := Op.buildSlice 22 1 #[(0, Operand.tmp 46)], type := 22, pos := "law.go:138", after := #[{ on := 6, ground := Ground.data }], guard := none }) rfl (fun K hK => ?_) AllReadyH.nil
        go_simp
        have HF7 := Lib.hid (HF2.out.alloc (.cells #[num many, .slice A' m c'] 31))
        have HR7 := MM.Row.new (w2) 31 [num many, .slice A' m c']
        (try rw [World.size_alloc] at HR7)
        have HR7 := Lib.hid HR7
        refine hK.out _ _ (HSS.out _ HF7.out) (fun hHeld => ?_)
        clear hK K
        try simp only [Act.put, List.setIfInBounds_toArray, List.set_cons_zero, List.set_cons_succ]
        refine wpAnyH_ready (rs := [8]) (by kernel_rfl) (by simp) ?_
        refine AllReadyH.cons (o := { dst := some 48, op := Op.call { callee := Callee.builtin Builtin.append, args := #[Operand.tmp 42, Operand.tmp 47], argTypes := #[22, 22] }, type := 22, pos := "law.go:138", after := #[{ on := 2, ground := Ground.data }, { on := 7, ground := Ground.data }, { on := 2, ground := Ground.chain }], guard := none }) rfl (fun K hK => ?_) AllReadyH.nil
        refine MO.step_append ?_ (.tmp 42) (.tmp 47) 22 ?_ wd.heap.size 31 _ 2 32 blocks_slice block_info rfl (by omega) v2 (0 + n) ([] ++ flatB bs) ?_ (HV2.out.alloc (.cells #[num many, .slice A' m c'] 31)) (some ⟨w2.heap.size, 0, none⟩) 1 1 (Bq.cells ⟨many, A', m, c', l⟩) ?_ rfl (fun h => by cases h) [] (MM.Src.row HR7.out (by simp) _ (fun j u hu => hu)) (cellsB_one _) (by simp only [maxLen]; omega) (by omega) (HSZ.out _ HF7.out) ?_
        · rfl
        · rfl
        · rfl
        · rfl
        intro v8 w8 hv8 hg8 ha8
        have HOW8 := Lib.hid (MM.own_lt (HV2.out.alloc (.cells #[num many, .slice A' m c'] 31)))
        have HF8 := Lib.hid (HF7.out.trans (MM.Far.of_grown (S := v2.ownBlock.toList) hg8 (by intro b1 hb1 _; simp [hb1])) (fun b1 h1 h2 => by have := HOW8.out b1 (by simpa using h1); omega))
        have hv8' : w8.ownsRow wd.heap.size 31 2 v8 (bs ++ [(⟨many, A', m, c', l⟩ : Bq)]).length (flatB (bs ++ [(⟨many, A', m, c', l⟩ : Bq)])) := by
          have e1 : (bs ++ [(⟨many, A', m, c', l⟩ : Bq)]).length = 0 + n + 1 := by simp [HN.out]
          have e2 : flatB (bs ++ [(⟨many, A', m, c', l⟩ : Bq)]) = ([] ++ flatB bs) ++ Bq.cells ⟨many, A', m, c', l⟩ := by simp [flatB]
          rw [e1, e2]; exact hv8
        have HV8 := Lib.hid hv8'
        clear hv8 hg8 ha8 hv8'
        refine hK.out _ _ (HSS.out _ HF8.out) (fun hHeld => ?_)
        clear hK K
        try simp only [Act.put, List.setIfInBounds_toArray, List.set_cons_zero, List.set_cons_succ]
        obtain ⟨A3, c3, e3, k13, k23, -, -, hBr3⟩ := br_of HV8.out (fun t ht => HSM3.out t ht _ HF8.out)
        rw [HL3.out] at e3 k13
        subst e3
        have HC3 := Lib.hid (check_any ((bs ++ [(⟨many, A', m, c', l⟩ : Bq)]).map Bq.kb) (n + 1) (by rw [List.length_map]; exact HL3.out) (by omega) HWB3.out A3 c3 _ (HT.out.far (HFWc.out.trans HF8.out (by simp))) hBr3)
        rw [HQ.out] at HC3
        clear hBr3
        refine wpAnyH_ready (rs := [9]) (by kernel_rfl) (by simp) ?_
        refine AllReadyH.cons (o := { dst := some 49, op := Op.call { callee := Callee.value (Operand.func 10), args := #[Operand.tmp 48], argTypes := #[22] }, type := 27, pos := "law.go:138", after := #[{ on := 8, ground := Ground.data }, { on := 8, ground := Ground.chain }], guard := none }) rfl (fun K hK => ?_) AllReadyH.nil
        go_simp
        go_at_call 10
        (with_reducible refine HC3.out.mono ?_)
        rintro e w9 ⟨rfl, hF9⟩
        have HF9 := Lib.hid (HF8.out.trans hF9 (by simp))
        clear hF9
        refine hK.out _ _ (HSS.out _ HF9.out) (fun hHeld => ?_)
        clear hK K
        refine wpAnyH_take (i := 10) (oi := { dst := some 39, op := Op.move (Operand.tmp 49), type := 27, pos := "law.go:138", after := #[{ on := 9, ground := Ground.data }], guard := none }) (v := ?w6) rfl (by kernel_rfl) (by kernel_rfl) (by kernel_rfl) (fun _ _ _ h => h) (Or.inl ⟨by rfl, ?hz6⟩) hHeld ?re6
        case hz6 => (intro w hSw; obtain ⟨hS0, hS1⟩ := hSw; go_simp; try (with_reducible rfl))
        try simp only [Act.put, List.setIfInBounds_toArray, List.set_cons_zero, List.set_cons_succ]
        refine wpAnyH_take (i := 11) (oi := { dst := some 50, op := Op.extract (Operand.tmp 39) 0, type := 3, pos := "law.go:138", after := #[{ on := 10, ground := Ground.data }], guard := none }) (v := ?w7) rfl (by kernel_rfl) (by kernel_rfl) (by kernel_rfl) (fun _ _ _ h => h) (Or.inl ⟨by rfl, ?hz7⟩) hHeld ?re7
        case hz7 => (intro w hSw; obtain ⟨hS0, hS1⟩ := hSw; go_simp; try (with_reducible rfl))
        try simp only [Act.put, List.setIfInBounds_toArray, List.set_cons_zero, List.set_cons_succ]
        refine wpAnyH_take (i := 12) (oi := { dst := some 51, op := Op.extract (Operand.tmp 39) 1, type := 3, pos := "law.go:138", after := #[{ on := 10, ground := Ground.data }, { on := 14, ground := Ground.gcOnly Departure.lateStores }], guard := none }) (v := ?w8) rfl (by kernel_rfl) (by kernel_rfl) (by kernel_rfl) (fun _ _ _ h => h) (Or.inl ⟨by rfl, ?hz8⟩) hHeld ?re8
        case hz8 => (intro w hSw; obtain ⟨hS0, hS1⟩ := hSw; go_simp; try (with_reducible rfl))
        try simp only [Act.put, List.setIfInBounds_toArray, List.set_cons_zero, List.set_cons_succ]
        refine wpAnyH_take (i := 13) (oi := { dst := some 52, op := Op.extract (Operand.tmp 39) 2, type := 26, pos := "law.go:138", after := #[{ on := 10, ground := Ground.data }, { on := 15, ground := Ground.gcOnly Departure.lateStores }], guard := none }) (v := ?w9) rfl (by kernel_rfl) (by kernel_rfl) (by kernel_rfl) (fun _ _ _ h => h) (Or.inl ⟨by rfl, ?hz9⟩) hHeld ?re9
        case hz9 => (intro w hSw; obtain ⟨hS0, hS1⟩ := hSw; go_simp; try (with_reducible rfl))
        try simp only [Act.put, List.setIfInBounds_toArray, List.set_cons_zero, List.set_cons_succ]
        refine wpAnyH_take (i := 14) (oi := { dst := some 11, op := Op.assign (Operand.tmp 50), type := 3, pos := "law.go:138", after := #[{ on := 11, ground := Ground.data }, { on := 9, ground := Ground.chain }, { on := 0, ground := Ground.phase }, { on := 1, ground := Ground.phase }, { on := 2, ground := Ground.phase }, { on := 3, ground := Ground.phase }, { on := 4, ground := Ground.phase }, { on := 5, ground := Ground.phase }, { on := 6, ground := Ground.phase }, { on := 7, ground := Ground.phase }, { on := 8, ground := Ground.phase }, { on := 9, ground := Ground.phase }, { on := 10, ground := Ground.phase }, { on := 11, ground := Ground.phase }, { on := 12, ground := Ground.textOnly Departure.lateStores }, { on := 13, ground := Ground.textOnly Departure.lateStores }], guard := none }) (v := ?w10) rfl (by kernel_rfl) (by kernel_rfl) (by kernel_rfl) (fun _ _ _ h => h) (Or.inl ⟨by rfl, ?hz10⟩) hHeld ?re10
        case hz10 => (intro w hSw; obtain ⟨hS0, hS1⟩ := hSw; go_simp; try (with_reducible rfl))
        try simp only [Act.put, List.setIfInBounds_toArray, List.set_cons_zero, List.set_cons_succ]
        refine wpAnyH_take (i := 15) (oi := { dst := some 12, op := Op.assign (Operand.tmp 51), type := 3, pos := "law.go:138", after := #[{ on := 12, ground := Ground.data }, { on := 14, ground := Ground.chain }, { on := 0, ground := Ground.phase }, { on := 1, ground := Ground.phase }, { on := 2, ground := Ground.phase }, { on := 3, ground := Ground.phase }, { on := 4, ground := Ground.phase }, { on := 5, ground := Ground.phase }, { on := 6, ground := Ground.phase }, { on := 7, ground := Ground.phase }, { on := 8, ground := Ground.phase }, { on := 9, ground := Ground.phase }, { on := 10, ground := Ground.phase }, { on := 11, ground := Ground.phase }, { on := 12, ground := Ground.phase }, { on := 13, ground := Ground.textOnly Departure.lateStores }, { on := 14, ground := Ground.phase }], guard := none }) (v := ?w11) rfl (by kernel_rfl) (by kernel_rfl) (by kernel_rfl) (fun _ _ _ h => h) (Or.inl ⟨by rfl, ?hz11⟩) hHeld ?re11
        case hz11 => (intro w hSw; obtain ⟨hS0, hS1⟩ := hSw; go_simp; try (with_reducible rfl))
        try simp only [Act.put, List.setIfInBounds_toArray, List.set_cons_zero, List.set_cons_succ]
        refine wpAnyH_take (i := 16) (oi := { dst := some 13, op := Op.assign (Operand.tmp 52), type := 26, pos := "law.go:138", after := #[{ on := 13, ground := Ground.data }, { on := 15, ground := Ground.chain }, { on := 0, ground := Ground.phase }, { on := 1, ground := Ground.phase }, { on := 2, ground := Ground.phase }, { on := 3, ground := Ground.phase }, { on := 4, ground := Ground.phase }, { on := 5, ground := Ground.phase }, { on := 6, ground := Ground.phase }, { on := 7, ground := Ground.phase }, { on := 8, ground := Ground.phase }, { on := 9, ground := Ground.phase }, { on := 10, ground := Ground.phase }, { on := 11, ground := Ground.phase }, { on := 12, ground := Ground.phase }, { on := 13, ground := Ground.phase }, { on := 14, ground := Ground.phase }, { on := 15, ground := Ground.phase }], guard := none }) (v := ?w12) rfl (by kernel_rfl) (by kernel_rfl) (by kernel_rfl) (fun _ _ _ h => h) (Or.inl ⟨by rfl, ?hz12⟩) hHeld ?re12
        case hz12 => (intro w hSw; obtain ⟨hS0, hS1⟩ := hSw; go_simp; try (with_reducible rfl))
        try simp only [Act.put, List.setIfInBounds_toArray, List.set_cons_zero, List.set_cons_succ]
        refine wpAnyH_done (by kernel_rfl) ?_ _
        first | refine NoPanic.normal ?_ | skip
        go_wp2_with (fail)
        go_meet
        exact ⟨rfl, rfl, rfl, HF9⟩
      · go_simp
        have HF7 := Lib.hid (HFA.out.alloc (.cells #[num many, .slice A' m c'] 31))
        have HR7 := MM.Row.new (wd.drew.alloc (.cells #[] 31)) 31 [num many, .slice A' m c']
        (try rw [World.size_alloc] at HR7)
        have HR7 := Lib.hid HR7
        refine hK.out _ _ (HSS.out _ HF7.out) (fun hHeld => ?_)
        clear hK K
        try simp only [Act.put, List.setIfInBounds_toArray, List.set_cons_zero, List.set_cons_succ]
        refine wpAnyH_ready (rs := [2]) (by kernel_rfl) (by simp) ?_
        refine AllReadyH.cons (o := { dst := some 42, op := Op.call { callee := Callee.builtin Builtin.append, args := #[Operand.tmp 40, Operand.tmp 41], argTypes := #[22, 22] }, type := 22, pos := "law.go:138", after := #[{ on := 0, ground := Ground.data }, { on := 1, ground := Ground.data }], guard := none }) rfl (fun K hK => ?_) AllReadyH.nil
        refine MO.step_append ?_ (.tmp 40) (.tmp 41) 22 ?_ wd.heap.size 31 _ 2 32 blocks_slice block_info rfl (by omega) (.slice (some ⟨wd.heap.size, 0, none⟩) 0 0) 0 [] ?_ (MM.own_far (MO.of_row HO0.out (Nat.le_refl _) rfl (by unfold maxLen; omega)) ((MM.Far.refl [] _).alloc _) (by simp)) (some ⟨g, 0, none⟩) n c (flatB bs) ?_ HBL.out (fun h => by cases h) [] (HSX.out _ HF7.out) HB1.out (by simp only [maxLen]; omega) (by omega) (HSZ.out _ HF7.out) ?_
        · rfl
        · rfl
        · rfl
        · rfl
        intro v2 w2 hv2 hg2 ha2
        have HV2 := Lib.hid hv2
        have HF2 := Lib.hid (HF7.out.trans (MM.Far.of_grown (S := [wd.heap.size]) hg2 (by intro b1 hb1 _; simp [Value.ownBlock] at hb1; simp [hb1])) (fun b1 h1 h2 => by have := (HSZ.out _ HF7.out); simp at h1; omega))
        have HGR2 := Lib.hid hg2
        clear hv2 hg2 ha2
        refine hK.out _ _ (HSS.out _ HF2.out) (fun hHeld => ?_)
        clear hK K
        try simp only [Act.put, List.setIfInBounds_toArray, List.set_cons_zero, List.set_cons_succ]
        refine wpAnyH_ready (rs := [8]) (by kernel_rfl) (by simp) ?_
        refine AllReadyH.cons (o := { dst := some 48, op := Op.call { callee := Callee.builtin Builtin.append, args := #[Operand.tmp 42, Operand.tmp 47], argTypes := #[22, 22] }, type := 22, pos := "law.go:138", after := #[{ on := 2, ground := Ground.data }, { on := 7, ground := Ground.data }, { on := 2, ground := Ground.chain }], guard := none }) rfl (fun K hK => ?_) AllReadyH.nil
        refine MO.step_append ?_ (.tmp 42) (.tmp 47) 22 ?_ wd.heap.size 31 _ 2 32 blocks_slice block_info rfl (by omega) v2 (0 + n) ([] ++ flatB bs) ?_ HV2.out (some ⟨wd.heap.size + 1, 0, none⟩) 1 1 (Bq.cells ⟨many, A', m, c', l⟩) ?_ rfl (fun h => by cases h) [] (HSB.out _ _ HR7.out HGR2.out) (cellsB_one _) (by simp only [maxLen]; omega) (by omega) (HSZ.out _ HF2.out) ?_
        · rfl
        · rfl
        · rfl
        · rfl
        intro v8 w8 hv8 hg8 ha8
        have HOW8 := Lib.hid (MM.own_lt HV2.out)
        have HF8 := Lib.hid (HF2.out.trans (MM.Far.of_grown (S := v2.ownBlock.toList) hg8 (by intro b1 hb1 _; simp [hb1])) (fun b1 h1 h2 => by have := HOW8.out b1 (by simpa using h1); omega))
        have hv8' : w8.ownsRow wd.heap.size 31 2 v8 (bs ++ [(⟨many, A', m, c', l⟩ : Bq)]).length (flatB (bs ++ [(⟨many, A', m, c', l⟩ : Bq)])) := by
          have e1 : (bs ++ [(⟨many, A', m, c', l⟩ : Bq)]).length = 0 + n + 1 := by simp [HN.out]
          have e2 : flatB (bs ++ [(⟨many, A', m, c', l⟩ : Bq)]) = ([] ++ flatB bs) ++ Bq.cells ⟨many, A', m, c', l⟩ := by simp [flatB]
          rw [e1, e2]; exact hv8
        have HV8 := Lib.hid hv8'
        clear hv8 hg8 ha8 hv8'
        refine hK.out _ _ (HSS.out _ HF8.out) (fun hHeld => ?_)
        clear hK K
        try simp only [Act.put, List.setIfInBounds_toArray, List.set_cons_zero, List.set_cons_succ]
        obtain ⟨A3, c3, e3, k13, k23, -, -, hBr3⟩ := br_of HV8.out (fun t ht => HSM3.out t ht _ HF8.out)
        rw [HL3.out] at e3 k13
        subst e3
        have HC3 := Lib.hid (check_any ((bs ++ [(⟨many, A', m, c', l⟩ : Bq)]).map Bq.kb) (n + 1) (by rw [List.length_map]; exact HL3.out) (by omega) HWB3.out A3 c3 _ (HT.out.far (HFWc.out.trans HF8.out (by simp))) hBr3)
        rw [HQ.out] at HC3
        clear hBr3
        refine wpAnyH_ready (rs := [9]) (by kernel_rfl) (by simp) ?_
        refine AllReadyH.cons (o := { dst := some 49, op := Op.call { callee := Callee.value (Operand.func 10), args := #[Operand.tmp 48], argTypes := #[22] }, type := 27, pos := "law.go:138", after := #[{ on := 8, ground := Ground.data }, { on := 8, ground := Ground.chain }], guard := none }) rfl (fun K hK => ?_) AllReadyH.nil
        go_simp
        go_at_call 10
        (with_reducible refine HC3.out.mono ?_)
        rintro e w9 ⟨rfl, hF9⟩
        have HF9 := Lib.hid (HF8.out.trans hF9 (by simp))
        clear hF9
        refine hK.out _ _ (HSS.out _ HF9.out) (fun hHeld => ?_)
        clear hK K
        refine wpAnyH_take (i := 10) (oi := { dst := some 39, op := Op.move (Operand.tmp 49), type := 27, pos := "law.go:138", after := #[{ on := 9, ground := Ground.data }], guard := none }) (v := ?w13) rfl (by kernel_rfl) (by kernel_rfl) (by kernel_rfl) (fun _ _ _ h => h) (Or.inl ⟨by rfl, ?hz13⟩) hHeld ?re13
        case hz13 => (intro w hSw; obtain ⟨hS0, hS1⟩ := hSw; go_simp; try (with_reducible rfl))
        try simp only [Act.put, List.setIfInBounds_toArray, List.set_cons_zero, List.set_cons_succ]
        refine wpAnyH_take (i := 11) (oi := { dst := some 50, op := Op.extract (Operand.tmp 39) 0, type := 3, pos := "law.go:138", after := #[{ on := 10, ground := Ground.data }], guard := none }) (v := ?w14) rfl (by kernel_rfl) (by kernel_rfl) (by kernel_rfl) (fun _ _ _ h => h) (Or.inl ⟨by rfl, ?hz14⟩) hHeld ?re14
        case hz14 => (intro w hSw; obtain ⟨hS0, hS1⟩ := hSw; go_simp; try (with_reducible rfl))
        try simp only [Act.put, List.setIfInBounds_toArray, List.set_cons_zero, List.set_cons_succ]
        refine wpAnyH_take (i := 12) (oi := { dst := some 51, op := Op.extract (Operand.tmp 39) 1, type := 3, pos := "law.go:138", after := #[{ on := 10, ground := Ground.data }, { on := 14, ground := Ground.gcOnly Departure.lateStores }], guard := none }) (v := ?w15) rfl (by kernel_rfl) (by kernel_rfl) (by kernel_rfl) (fun _ _ _ h => h) (Or.inl ⟨by rfl, ?hz15⟩) hHeld ?re15
        case hz15 => (intro w hSw; obtain ⟨hS0, hS1⟩ := hSw; go_simp; try (with_reducible rfl))
        try simp only [Act.put, List.setIfInBounds_toArray, List.set_cons_zero, List.set_cons_succ]
        refine wpAnyH_take (i := 13) (oi := { dst := some 52, op := Op.extract (Operand.tmp 39) 2, type := 26, pos := "law.go:138", after := #[{ on := 10, ground := Ground.data }, { on := 15, ground := Ground.gcOnly Departure.lateStores }], guard := none }) (v := ?w16) rfl (by kernel_rfl) (by kernel_rfl) (by kernel_rfl) (fun _ _ _ h => h) (Or.inl ⟨by rfl, ?hz16⟩) hHeld ?re16
        case hz16 => (intro w hSw; obtain ⟨hS0, hS1⟩ := hSw; go_simp; try (with_reducible rfl))
        try simp only [Act.put, List.setIfInBounds_toArray, List.set_cons_zero, List.set_cons_succ]
        refine wpAnyH_take (i := 14) (oi := { dst := some 11, op := Op.assign (Operand.tmp 50), type := 3, pos := "law.go:138", after := #[{ on := 11, ground := Ground.data }, { on := 9, ground := Ground.chain }, { on := 0, ground := Ground.phase }, { on := 1, ground := Ground.phase }, { on := 2, ground := Ground.phase }, { on := 3, ground := Ground.phase }, { on := 4, ground := Ground.phase }, { on := 5, ground := Ground.phase }, { on := 6, ground := Ground.phase }, { on := 7, ground := Ground.phase }, { on := 8, ground := Ground.phase }, { on := 9, ground := Ground.phase }, { on := 10, ground := Ground.phase }, { on := 11, ground := Ground.phase }, { on := 12, ground := Ground.textOnly Departure.lateStores }, { on := 13, ground := Ground.textOnly Departure.lateStores }], guard := none }) (v := ?w17) rfl (by kernel_rfl) (by kernel_rfl) (by kernel_rfl) (fun _ _ _ h => h) (Or.inl ⟨by rfl, ?hz17⟩) hHeld ?re17
        case hz17 => (intro w hSw; obtain ⟨hS0, hS1⟩ := hSw; go_simp; try (with_reducible rfl))
        try simp only [Act.put, List.setIfInBounds_toArray, List.set_cons_zero, List.set_cons_succ]
        refine wpAnyH_take (i := 15) (oi := { dst := some 12, op := Op.assign (Operand.tmp 51), type := 3, pos := "law.go:138", after := #[{ on := 12, ground := Ground.data }, { on := 14, ground := Ground.chain }, { on := 0, ground := Ground.phase }, { on := 1, ground := Ground.phase }, { on := 2, ground := Ground.phase }, { on := 3, ground := Ground.phase }, { on := 4, ground := Ground.phase }, { on := 5, ground := Ground.phase }, { on := 6, ground := Ground.phase }, { on := 7, ground := Ground.phase }, { on := 8, ground := Ground.phase }, { on := 9, ground := Ground.phase }, { on := 10, ground := Ground.phase }, { on := 11, ground := Ground.phase }, { on := 12, ground := Ground.phase }, { on := 13, ground := Ground.textOnly Departure.lateStores }, { on := 14, ground := Ground.phase }], guard := none }) (v := ?w18) rfl (by kernel_rfl) (by kernel_rfl) (by kernel_rfl) (fun _ _ _ h => h) (Or.inl ⟨by rfl, ?hz18⟩) hHeld ?re18
        case hz18 => (intro w hSw; obtain ⟨hS0, hS1⟩ := hSw; go_simp; try (with_reducible rfl))
        try simp only [Act.put, List.setIfInBounds_toArray, List.set_cons_zero, List.set_cons_succ]
        refine wpAnyH_take (i := 16) (oi := { dst := some 13, op := Op.assign (Operand.tmp 52), type := 26, pos := "law.go:138", after := #[{ on := 13, ground := Ground.data }, { on := 15, ground := Ground.chain }, { on := 0, ground := Ground.phase }, { on := 1, ground := Ground.phase }, { on := 2, ground := Ground.phase }, { on := 3, ground := Ground.phase }, { on := 4, ground := Ground.phase }, { on := 5, ground := Ground.phase }, { on := 6, ground := Ground.phase }, { on := 7, ground := Ground.phase }, { on := 8, ground := Ground.phase }, { on := 9, ground := Ground.phase }, { on := 10, ground := Ground.phase }, { on := 11, ground := Ground.phase }, { on := 12, ground := Ground.phase }, { on := 13, ground := Ground.phase }, { on := 14, ground := Ground.phase }, { on := 15, ground := Ground.phase }], guard := none }) (v := ?w19) rfl (by kernel_rfl) (by kernel_rfl) (by kernel_rfl) (fun _ _ _ h => h) (Or.inl ⟨by rfl, ?hz19⟩) hHeld ?re19
        case hz19 => (intro w hSw; obtain ⟨hS0, hS1⟩ := hSw; go_simp; try (with_reducible rfl))
        try simp only [Act.put, List.setIfInBounds_toArray, List.set_cons_zero, List.set_cons_succ]
        refine wpAnyH_done (by kernel_rfl) ?_ _
        first | refine NoPanic.normal ?_ | skip
        go_wp2_with (fail)
        go_meet
        exact ⟨rfl, rfl, rfl, HF9⟩
    · go_simp
      have HF7 := Lib.hid (HFD.out.alloc (.cells #[num many, .slice A' m c'] 31))
      have HR7 := MM.Row.new (wd.drew) 31 [num many, .slice A' m c']
      (try rw [World.size_alloc] at HR7)
      have HR7 := Lib.hid HR7
      refine hK.out _ _ (HSS.out _ HF7.out) (fun hHeld => ?_)
      clear hK K
      try simp only [Act.put, List.setIfInBounds_toArray, List.set_cons_zero, List.set_cons_succ]
      refine wpAnyH_ready (rs := [0]) (by kernel_rfl) (by simp) ?_
      refine AllReadyH.cons (o := { dst := some 40, op := Op.buildSlice 22 0 #[], type := 22, pos := "law.go:138", after := #[], guard := none }) rfl (fun K hK => ?_) AllReadyH.nil
      go_simp
      have HFA := Lib.hid (HF7.out.alloc (.cells #[] 31))
      have HO0 := MM.Row.new (wd.drew.alloc (.cells #[num many, .slice A' m c'] 31)) 31 []
      (try rw [World.size_alloc] at HO0)
      have HO0 := Lib.hid HO0
      refine hK.out _ _ (HSS.out _ HFA.out) (fun hHeld => ?_)
      clear hK K
      try simp only [Act.put, List.setIfInBounds_toArray, List.set_cons_zero, List.set_cons_succ]
      refine wpAnyH_ready (rs := [2]) (by kernel_rfl) (by simp) ?_
      refine AllReadyH.cons (o := { dst := some 42, op := Op.call { callee := Callee.builtin Builtin.append, args := #[Operand.tmp 40, Operand.tmp 41], argTypes := #[22, 22] }, type := 22, pos := "law.go:138", after := #[{ on := 0, ground := Ground.data }, { on := 1, ground := Ground.data }], guard := none }) rfl (fun K hK => ?_) AllReadyH.nil
      refine MO.step_append ?_ (.tmp 40) (.tmp 41) 22 ?_ wd.heap.size 31 _ 2 32 blocks_slice block_info rfl (by omega) (.slice (some ⟨wd.heap.size + 1, 0, none⟩) 0 0) 0 [] ?_ (MO.of_row HO0.out (Nat.le_succ _) rfl (by unfold maxLen; omega)) (some ⟨g, 0, none⟩) n c (flatB bs) ?_ HBL.out (fun h => by cases h) [] (HSX.out _ HFA.out) HB1.out (by simp only [maxLen]; omega) (by omega) (HSZ.out _ HFA.out) ?_
      · rfl
      · rfl
      · rfl
      · rfl
      intro v2 w2 hv2 hg2 ha2
      have HV2 := Lib.hid hv2
      have HF2 := Lib.hid (HFA.out.trans (MM.Far.of_grown (S := [wd.heap.size + 1]) hg2 (by intro b1 hb1 _; simp [Value.ownBlock] at hb1; simp [hb1])) (fun b1 h1 h2 => by have := (HSZ.out _ HFA.out); simp at h1; omega))
      have HGR2 := Lib.hid hg2
      clear hv2 hg2 ha2
      refine hK.out _ _ (HSS.out _ HF2.out) (fun hHeld => ?_)
      clear hK K
      try simp only [Act.put, List.setIfInBounds_toArray, List.set_cons_zero, List.set_cons_succ]
      refine wpAnyH_ready (rs := [8]) (by kernel_rfl) (by simp) ?_
      refine AllReadyH.cons (o := { dst := some 48, op := Op.call { callee := Callee.builtin Builtin.append, args := #[Operand.tmp 42, Operand.tmp 47], argTypes := #[22, 22] }, type := 22, pos := "law.go:138", after := #[{ on := 2, ground := Ground.data }, { on := 7, ground := Ground.data }, { on := 2, ground := Ground.chain }], guard := none }) rfl (fun K hK => ?_) AllReadyH.nil
      refine MO.step_append ?_ (.tmp 42) (.tmp 47) 22 ?_ wd.heap.size 31 _ 2 32 blocks_slice block_info rfl (by omega) v2 (0 + n) ([] ++ flatB bs) ?_ HV2.out (some ⟨wd.heap.size, 0, none⟩) 1 1 (Bq.cells ⟨many, A', m, c', l⟩) ?_ rfl (fun h => by cases h) [] (HSB2.out _ _ (HR7.out.alloc _) HGR2.out) (cellsB_one _) (by simp only [maxLen]; omega) (by omega) (HSZ.out _ HF2.out) ?_
      · rfl
      · rfl
      · rfl
      · rfl
      intro v8 w8 hv8 hg8 ha8
      have HOW8 := Lib.hid (MM.own_lt HV2.out)
      have HF8 := Lib.hid (HF2.out.trans (MM.Far.of_grown (S := v2.ownBlock.toList) hg8 (by intro b1 hb1 _; simp [hb1])) (fun b1 h1 h2 => by have := HOW8.out b1 (by simpa using h1); omega))
      have hv8' : w8.ownsRow wd.heap.size 31 2 v8 (bs ++ [(⟨many, A', m, c', l⟩ : Bq)]).length (flatB (bs ++ [(⟨many, A', m, c', l⟩ : Bq)])) := by
        have e1 : (bs ++ [(⟨many, A', m, c', l⟩ : Bq)]).length = 0 + n + 1 := by simp [HN.out]
        have e2 : flatB (bs ++ [(⟨many, A', m, c', l⟩ : Bq)]) = ([] ++ flatB bs) ++ Bq.cells ⟨many, A', m, c', l⟩ := by simp [flatB]
        rw [e1, e2]; exact hv8
      have HV8 := Lib.hid hv8'
      clear hv8 hg8 ha8 hv8'
      refine hK.out _ _ (HSS.out _ HF8.out) (fun hHeld => ?_)
      clear hK K
      try simp only [Act.put, List.setIfInBounds_toArray, List.set_cons_zero, List.set_cons_succ]
      obtain ⟨A3, c3, e3, k13, k23, -, -, hBr3⟩ := br_of HV8.out (fun t ht => HSM3.out t ht _ HF8.out)
      rw [HL3.out] at e3 k13
      subst e3
      have HC3 := Lib.hid (check_any ((bs ++ [(⟨many, A', m, c', l⟩ : Bq)]).map Bq.kb) (n + 1) (by rw [List.length_map]; exact HL3.out) (by omega) HWB3.out A3 c3 _ (HT.out.far (HFWc.out.trans HF8.out (by simp))) hBr3)
      rw [HQ.out] at HC3
      clear hBr3
      refine wpAnyH_ready (rs := [9]) (by kernel_rfl) (by simp) ?_
      refine AllReadyH.cons (o := { dst := some 49, op := Op.call { callee := Callee.value (Operand.func 10), args := #[Operand.tmp 48], argTypes := #[22] }, type := 27, pos := "law.go:138", after := #[{ on := 8, ground := Ground.data }, { on := 8, ground := Ground.chain }], guard := none }) rfl (fun K hK => ?_) AllReadyH.nil
      go_simp
      go_at_call 10
      (with_reducible refine HC3.out.mono ?_)
      rintro e w9 ⟨rfl, hF9⟩
      have HF9 := Lib.hid (HF8.out.trans hF9 (by simp))
      clear hF9
      refine hK.out _ _ (HSS.out _ HF9.out) (fun hHeld => ?_)
      clear hK K
      refine wpAnyH_take (i := 10) (oi := { dst := some 39, op := Op.move (Operand.tmp 49), type := 27, pos := "law.go:138", after := #[{ on := 9, ground := Ground.data }], guard := none }) (v := ?w20) rfl (by kernel_rfl) (by kernel_rfl) (by kernel_rfl) (fun _ _ _ h => h) (Or.inl ⟨by rfl, ?hz20⟩) hHeld ?re20
      case hz20 => (intro w hSw; obtain ⟨hS0, hS1⟩ := hSw; go_simp; try (with_reducible rfl))
      try simp only [Act.put, List.setIfInBounds_toArray, List.set_cons_zero, List.set_cons_succ]
      refine wpAnyH_take (i := 11) (oi := { dst := some 50, op := Op.extract (Operand.tmp 39) 0, type := 3, pos := "law.go:138", after := #[{ on := 10, ground := Ground.data }], guard := none }) (v := ?w21) rfl (by kernel_rfl) (by kernel_rfl) (by kernel_rfl) (fun _ _ _ h => h) (Or.inl ⟨by rfl, ?hz21⟩) hHeld ?re21
      case hz21 => (intro w hSw; obtain ⟨hS0, hS1⟩ := hSw; go_simp; try (with_reducible rfl))
      try simp only [Act.put, List.setIfInBounds_toArray, List.set_cons_zero, List.set_cons_succ]
      refine wpAnyH_take (i := 12) (oi := { dst := some 51, op := Op.extract (Operand.tmp 39) 1, type := 3, pos := "law.go:138", after := #[{ on := 10, ground := Ground.data }, { on := 14, ground := Ground.gcOnly Departure.lateStores }], guard := none }) (v := ?w22) rfl (by kernel_rfl) (by kernel_rfl) (by kernel_rfl) (fun _ _ _ h => h) (Or.inl ⟨by rfl, ?hz22⟩) hHeld ?re22
      case hz22 => (intro w hSw; obtain ⟨hS0, hS1⟩ := hSw; go_simp; try (with_reducible rfl))
      try simp only [Act.put, List.setIfInBounds_toArray, List.set_cons_zero, List.set_cons_succ]
      refine wpAnyH_take (i := 13) (oi := { dst := some 52, op := Op.extract (Operand.tmp 39) 2, type := 26, pos := "law.go:138", after := #[{ on := 10, ground := Ground.data }, { on := 15, ground := Ground.gcOnly Departure.lateStores }], guard := none }) (v := ?w23) rfl (by kernel_rfl) (by kernel_rfl) (by kernel_rfl) (fun _ _ _ h => h) (Or.inl ⟨by rfl, ?hz23⟩) hHeld ?re23
      case hz23 => (intro w hSw; obtain ⟨hS0, hS1⟩ := hSw; go_simp; try (with_reducible rfl))
      try simp only [Act.put, List.setIfInBounds_toArray, List.set_cons_zero, List.set_cons_succ]
      refine wpAnyH_take (i := 14) (oi := { dst := some 11, op := Op.assign (Operand.tmp 50), type := 3, pos := "law.go:138", after := #[{ on := 11, ground := Ground.data }, { on := 9, ground := Ground.chain }, { on := 0, ground := Ground.phase }, { on := 1, ground := Ground.phase }, { on := 2, ground := Ground.phase }, { on := 3, ground := Ground.phase }, { on := 4, ground := Ground.phase }, { on := 5, ground := Ground.phase }, { on := 6, ground := Ground.phase }, { on := 7, ground := Ground.phase }, { on := 8, ground := Ground.phase }, { on := 9, ground := Ground.phase }, { on := 10, ground := Ground.phase }, { on := 11, ground := Ground.phase }, { on := 12, ground := Ground.textOnly Departure.lateStores }, { on := 13, ground := Ground.textOnly Departure.lateStores }], guard := none }) (v := ?w24) rfl (by kernel_rfl) (by kernel_rfl) (by kernel_rfl) (fun _ _ _ h => h) (Or.inl ⟨by rfl, ?hz24⟩) hHeld ?re24
      case hz24 => (intro w hSw; obtain ⟨hS0, hS1⟩ := hSw; go_simp; try (with_reducible rfl))
      try simp only [Act.put, List.setIfInBounds_toArray, List.set_cons_zero, List.set_cons_succ]
      refine wpAnyH_take (i := 15) (oi := { dst := some 12, op := Op.assign (Operand.tmp 51), type := 3, pos := "law.go:138", after := #[{ on := 12, ground := Ground.data }, { on := 14, ground := Ground.chain }, { on := 0, ground := Ground.phase }, { on := 1, ground := Ground.phase }, { on := 2, ground := Ground.phase }, { on := 3, ground := Ground.phase }, { on := 4, ground := Ground.phase }, { on := 5, ground := Ground.phase }, { on := 6, ground := Ground.phase }, { on := 7, ground := Ground.phase }, { on := 8, ground := Ground.phase }, { on := 9, ground := Ground.phase }, { on := 10, ground := Ground.phase }, { on := 11, ground := Ground.phase }, { on := 12, ground := Ground.phase }, { on := 13, ground := Ground.textOnly Departure.lateStores }, { on := 14, ground := Ground.phase }], guard := none }) (v := ?w25) rfl (by kernel_rfl) (by kernel_rfl) (by kernel_rfl) (fun _ _ _ h => h) (Or.inl ⟨by rfl, ?hz25⟩) hHeld ?re25
      case hz25 => (intro w hSw; obtain ⟨hS0, hS1⟩ := hSw; go_simp; try (with_reducible rfl))
      try simp only [Act.put, List.setIfInBounds_toArray, List.set_cons_zero, List.set_cons_succ]
      refine wpAnyH_take (i := 16) (oi := { dst := some 13, op := Op.assign (Operand.tmp 52), type := 26, pos := "law.go:138", after := #[{ on := 13, ground := Ground.data }, { on := 15, ground := Ground.chain }, { on := 0, ground := Ground.phase }, { on := 1, ground := Ground.phase }, { on := 2, ground := Ground.phase }, { on := 3, ground := Ground.phase }, { on := 4, ground := Ground.phase }, { on := 5, ground := Ground.phase }, { on := 6, ground := Ground.phase }, { on := 7, ground := Ground.phase }, { on := 8, ground := Ground.phase }, { on := 9, ground := Ground.phase }, { on := 10, ground := Ground.phase }, { on := 11, ground := Ground.phase }, { on := 12, ground := Ground.phase }, { on := 13, ground := Ground.phase }, { on := 14, ground := Ground.phase }, { on := 15, ground := Ground.phase }], guard := none }) (v := ?w26) rfl (by kernel_rfl) (by kernel_rfl) (by kernel_rfl) (fun _ _ _ h => h) (Or.inl ⟨by rfl, ?hz26⟩) hHeld ?re26
      case hz26 => (intro w hSw; obtain ⟨hS0, hS1⟩ := hSw; go_simp; try (with_reducible rfl))
      try simp only [Act.put, List.setIfInBounds_toArray, List.set_cons_zero, List.set_cons_succ]
      refine wpAnyH_done (by kernel_rfl) ?_ _
      first | refine NoPanic.normal ?_ | skip
      go_wp2_with (fail)
      go_meet
      exact ⟨rfl, rfl, rfl, HF9⟩
  case rest =>
    obtain ⟨rfl, rfl, rfl, HFx⟩ := hcut
    have hQ := HQ.out
    rw [List.map_append, List.map_cons, List.map_nil] at hQ
    have hkb : (bs.map Bq.kb)[k]? = some (Bq.kb ⟨many, A', m, c', l⟩) := by rw [List.getElem?_map, HTk.out]; rfl
    by_cases h3 : r3 = 0
    · subst h3
      have hok := more_ok (l := bs.map Bq.kb) (by rw [HR.out]) hkb
      rw [hQ] at hok
      injection hok with hq1 hok
      injection hok with hq2 hq3
      subst hq1; subst hq2; subst hq3
      clear hQ hkb
      go_wp2_with (fail)
      go_ret
      exact ⟨by first | rfl | (simp; done), FIN.out _ (HFWc.out.trans HFx.out (by simp))⟩
    · obtain ⟨k1', a1', er, -, -⟩ := check_not hne (by rw [HR.out]; exact h3)
      have hr : (r1, r2, r3) = ((k1' : Int), (a1' : Int), (110 : Int)) := HR.out.symm.trans er
      injection hr with hr1 hr
      injection hr with hr2 hr3
      subst hr1; subst hr2; subst hr3
      have hmb := more_bad hne er (Bq.kb ⟨many, A', m, c', l⟩)
      rw [hQ] at hmb
      have hBy : ∀ W, MM.Far [] wd W → Br W [] (some ⟨g, 0, none⟩) (bs.map Bq.kb) := fun W f => HBrc.out.far f (by simp)
      have HCw := Lib.hid (fun W (f : MM.Far [] wd W) => check_any (bs.map Bq.kb) n (by rw [List.length_map]; exact HN.out) (by omega) (fun b hb => HWB3.out b (by rw [List.map_append]; exact List.mem_append_left _ hb)) (some ⟨g, 0, none⟩) c W (HT.out.far (HFWc.out.trans f (by simp))) (hBy W f))
      rw [er] at HCw
      have hk9 : k1' < 1000000000 ∧ a1' < 1000000000 := by
        obtain ⟨k2', a2', er2, ⟨b2, hb2, hw2⟩, _⟩ := check_not hne (by rw [HR.out]; exact h3)
        have e12 := er.symm.trans er2
        injection e12 with e1 e2
        injection e2 with e2 _
        have h1 := (List.getElem?_eq_some_iff.1 hb2).1
        rw [List.length_map] at h1
        have h1' := HN.out
        have hwb := HWB3.out b2 (by rw [List.map_append]; exact List.mem_append_left _ (List.mem_of_getElem? hb2))
        have h2 := wrong_le hw2
        have := hwb.len
        omega
      obtain ⟨hk9a, hk9b⟩ := hk9
      have HBe := Lib.hid (fun W (f : MM.Far [] wd W) => beyond_any (bs.map Bq.kb) n (by rw [List.length_map]; exact HN.out) (by omega) (fun b hb => (HWB3.out b (by rw [List.map_append]; exact List.mem_append_left _ hb)).len) k1' a1' hk9a hk9b (some ⟨g, 0, none⟩) c W (hBy W f))
      have hbey : ∀ h : Beyond (bs.map Bq.kb) k1' a1', beyB (bs.map Bq.kb) k1' a1' = true := bey_of
      have HBEY := Lib.hid hbey
      generalize beyB (bs.map Bq.kb) k1' a1' = by1 at *
      have HMB := Lib.hid hmb
      have hq3c : q3 = 0 ∨ q3 = 110 := by
        by_cases h : q3 = 0
        · exact .inl h
        · obtain ⟨_, _, e9, _, _⟩ := check_not (l := bs.map Bq.kb ++ [Bq.kb ⟨many, A', m, c', l⟩]) (by simp) (by rw [hQ]; exact h)
          rw [hQ] at e9
          injection e9 with _ e9
          injection e9 with _ e9
          exact .inr e9
      clear hQ hkb er hmb hBy hbey h3 hk9a hk9b
      go_upto_region 11 with (first
        | (go_at_call 10
           refine (HCw.out _ HFx.out).mono ?_
           rintro e w9 ⟨rfl, hF9⟩))
      have HF9 := Lib.hid (HFx.out.trans hF9 (by simp))
      clear hF9
      rcases hq3c with rfl | rfl
      · have hb1 : by1 = true := HBEY.out (by
          rcases HMB.out with h | h
          · injection h with _ h
            injection h with _ h
            cases h
          · exact h)
        subst hb1
        go_wp2_with (first
          | (go_at_call 12
             refine (HBe.out _ HF9.out).mono ?_
             rintro e w10 ⟨rfl, rfl⟩))
        go_ret
        exact ⟨by first | rfl | (simp; done), FIN.out _ (HFWc.out.trans HF9.out (by simp))⟩
      · by_cases heq : q1 = (k1' : Int) ∧ q2 = (a1' : Int)
        · obtain ⟨rfl, rfl⟩ := heq
          go_wp2_with (fail)
          go_ret
          exact ⟨by first | rfl | (simp; done), FIN.out _ (HFWc.out.trans HF9.out (by simp))⟩
        · have hb1 : by1 = true := HBEY.out (by
            rcases HMB.out with h | h
            · injection h with h1 h2
              injection h2 with h2 _
              exact absurd ⟨h1, h2⟩ heq
            · exact h)
          subst hb1
          by_cases hq1 : q1 = (k1' : Int)
          · have hq2 : (q2 == (a1' : Int)) = false := by simp; intro h; exact heq ⟨hq1, h⟩
            subst hq1
            clear heq
            go_wp2_with (first
              | (go_at_call 12
                 refine (HBe.out _ HF9.out).mono ?_
                 rintro e w10 ⟨rfl, rfl⟩))
            go_ret
            exact ⟨by first | rfl | (simp; done), FIN.out _ (HFWc.out.trans HF9.out (by simp))⟩
          · have hq1b : (q1 == (k1' : Int)) = false := by simpa using hq1
            clear heq
            go_wp2_with (first
              | (go_at_call 12
                 refine (HBe.out _ HF9.out).mono ?_
                 rintro e w10 ⟨rfl, rfl⟩))
            go_ret
            exact ⟨by first | rfl | (simp; done), FIN.out _ (HFWc.out.trans HF9.out (by simp))⟩
end KW
end Go.Proofs.YthhibcfljekibaaDoor
