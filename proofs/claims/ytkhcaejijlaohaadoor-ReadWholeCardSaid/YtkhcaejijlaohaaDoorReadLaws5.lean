/-
  P6.1, P6.2, P6.4: what is read is one of data, and each datum but those by themselves is in one list. No condition.
-/
import Derived.Test.YtkhcaejijlaohaaDoorReadMay2
import Derived.IntWalk
namespace Go.Proofs.YtkhcaejijlaohaaDoor
open Go.RowKit
set_option linter.unusedVariables false
namespace RX
open LX
theorem tokens_errin2 : ∀ (ts : List Tk) (r : Rd) (q z : Int), tokens ts r = .error (q, z) → ∃ t ∈ ts, t.at_ = q := by
  intro ts
  induction ts with
  | nil => intro r q z h; cases h
  | cons t ts ih =>
    intro r q z h
    simp only [tokens] at h
    cases hk : token r t with
    | error y => rw [hk] at h; injection h with h; injection h with h1 h2; exact ⟨t, List.mem_cons_self .., h1⟩
    | ok r1 =>
      rw [hk] at h
      obtain ⟨u, hu, e⟩ := ih _ _ _ h
      exact ⟨u, List.mem_cons_of_mem _ hu, e⟩
theorem lexL_errpos2 : ∀ (n : Nat) (l : List UInt8) (p : Nat) (out : List Tk) (q : Nat) (e : Int), l.length ≤ n → lexL l p out = .error (q, e) → q ≤ p + l.length := by
  intro n
  induction n with
  | zero =>
    intro l p out q e h hl
    have : l = [] := List.eq_nil_of_length_eq_zero (by omega)
    subst this
    cases hl
  | succ n ih =>
    intro l p out q e h hl
    cases l with
    | nil => cases hl
    | cons c r =>
      rw [lexL_step] at hl
      simp only [List.length_cons] at h ⊢
      cases hs : LX.step (c :: r) with
      | err e => rw [hs] at hl; cases hl; omega
      | skip k =>
        obtain ⟨h1, h2⟩ := adv_le hs (by intro e he; cases he)
        simp only [adv] at h1 h2
        rw [hs] at hl
        have := ih _ _ _ _ _ (by rw [List.length_drop, List.length_cons]; omega) hl
        rw [List.length_drop, List.length_cons] at this; omega
      | tok kd n s k =>
        obtain ⟨h1, h2⟩ := adv_le hs (by intro e he; cases he)
        simp only [adv] at h1 h2
        rw [hs] at hl
        have := ih _ _ _ _ _ (by rw [List.length_drop, List.length_cons]; omega) hl
        rw [List.length_drop, List.length_cons] at this; omega
theorem read_errpos2 {s : ByteArray} {q x : Int} (h : read s = .error (q, x)) : 0 ≤ q ∧ q ≤ s.size := by
  cases hL : lex s with
  | error e =>
    obtain ⟨p, z⟩ := e
    unfold read at h
    rw [hL] at h
    injection h with h
    injection h with h1 h2
    have : p ≤ s.size := by
      unfold lex at hL
      split at hL
      · cases hL; omega
      · have := lexL_errpos2 _ _ _ _ _ _ (Nat.le_refl _) hL
        rw [size_bts] at this; omega
    omega
  | ok ts =>
    rw [read_fin hL] at h
    cases hT : tokens ts ⟨[], [], []⟩ with
    | error e =>
      obtain ⟨p, z⟩ := e
      rw [hT] at h
      injection h with h
      injection h with h1 h2
      obtain ⟨t, ht, e⟩ := tokens_errin2 ts _ _ _ hT
      have hi := (lex_in_s hL).1 t ht
      have := hi.lt
      have := hi.pos
      omega
    | ok r =>
      rw [hT] at h
      have hI := (tokens_inv (P := fun x => x.at_ < s.size) (Q := fun p => p.at_ < s.size) (fun _ _ _ _ h => h) (fun _ h _ => h) ts (r := ⟨[], [], []⟩) (inv_start _ _) (fun _ => .inl rfl) (brings _ _ hL (fun _ hi _ _ => hi.lt) (fun _ hi _ => hi.lt) (fun _ hi _ => hi.lt) (fun _ hi _ _ _ => hi.lt) (fun _ hi _ => ⟨fun _ _ => hi.lt, hi.lt⟩)) hT).1
      simp only [fin] at h
      unfold endE at h
      split at h
      · cases h
      · rename_i p ps hop
        obtain ⟨h1, h2⟩ := hI.open_ p (by rw [hop]; exact List.mem_cons_self ..)
        split at h <;> (injection h with h; injection h with h3 h4; omega)
end RX
namespace RW6
open LX RX RM6
/-- The row at ib counts: f of each place. -/
def CntR (w2 : World) (ib n : Nat) (f : Nat → Nat) (wr : World) : Prop :=
  ∃ cs : List Nat, MM.Row wr ib 3 (ints cs) ∧ cs.length = n ∧ (∀ a, a < n → cs[a]? = some (f a)) ∧ MM.Far [] w2 wr
theorem CntR.at {w2 wr : World} {ib n : Nat} {f : Nat → Nat} (h : CntR w2 ib n f wr) {p : Nat} (hp : p < n) : wr.cell? ⟨ib, p, none⟩ = some (.int .i64 ((f p : Nat) : Int)) ∧ wr.frozen? ⟨ib, p, none⟩ = false := by
  obtain ⟨cs, hB, hl, hf, _⟩ := h
  refine ⟨hB.at ?_, hB.frozen p⟩
  unfold ints
  rw [List.getElem?_map, hf p hp]
  rfl
theorem CntR.inc {w2 wr : World} {ib n : Nat} {f g : Nat → Nat} (h : CntR w2 ib n f wr) {p : Nat} (hp : p < n) (hib : w2.heap.size ≤ ib) (hg : ∀ a, a < n → g a = f a + if a = p then 1 else 0) (z : Int) (hz : z = ((f p + 1 : Nat) : Int)) : CntR w2 ib n g (wr.setCell ⟨ib, p, none⟩ (.int .i64 z)) := by
  subst hz
  obtain ⟨cs, hB, hl, hf, hF⟩ := h
  refine ⟨cs.set p (f p + 1), ?_, by rw [List.length_set]; exact hl, fun a ha => ?_, hF.setCell (fun hlt => by simp only at hlt; omega) _⟩
  · have := hB.put p (.int .i64 ((f p + 1 : Nat) : Int))
    have e : (ints cs).set p (.int .i64 ((f p + 1 : Nat) : Int)) = ints (cs.set p (f p + 1)) := by unfold ints; rw [List.map_set]
    rw [e] at this
    exact this
  · by_cases e : p = a
    · subst e
      rw [List.getElem?_set_self (by omega), hg p hp, if_pos rfl]
    · rw [List.getElem?_set_ne e, hf a ha, hg a ha, if_neg (fun h => e h.symm)]
      simp
theorem CntR.to {w2 wr w' : World} {ib n : Nat} {f : Nat → Nat} (h : CntR w2 ib n f wr) (F : MM.Far [] wr w') : CntR w2 ib n f w' := by
  obtain ⟨cs, hB, hl, hf, hF⟩ := h
  exact ⟨cs, hB.far F (by simp), hl, hf, hF.trans F (by simp)⟩
theorem CntR.eq {w2 wr : World} {ib n : Nat} {f g : Nat → Nat} (h : CntR w2 ib n f wr) (e : ∀ a, a < n → f a = g a) : CntR w2 ib n g wr := by
  obtain ⟨cs, hB, hl, hf, hF⟩ := h
  exact ⟨cs, hB, hl, fun a ha => by rw [hf a ha, e a ha], hF⟩
theorem CntR.far {w2 wr : World} {ib n : Nat} {f : Nat → Nat} (h : CntR w2 ib n f wr) : MM.Far [] w2 wr := by
  obtain ⟨cs, hB, hl, hf, hF⟩ := h
  exact hF
theorem cnt_one (p a : Nat) : [p].count a = if a = p then 1 else 0 := by
  by_cases e : a = p
  · subst e; simp
  · rw [if_neg e, List.count_eq_zero_of_not_mem (by simpa using e)]
/-- The last of the first j. -/
def lastT (tops : List Nat) (j : Nat) : Int := match (tops.take j).getLast? with
  | none => -1
  | some p => (p : Int)
theorem lastT_succ {tops : List Nat} {j : Nat} (h : j < tops.length) : lastT tops (j + 1) = (tops[j] : Int) := by
  unfold lastT
  rw [List.take_succ_eq_append_getElem h, List.getLast?_append]
  simp
theorem lastT_lt {tops : List Nat} {j : Nat} (hp : tops.Pairwise (· < ·)) (h : j < tops.length) : lastT tops j < (tops[j] : Int) := by
  unfold lastT
  cases hg : (tops.take j).getLast? with
  | none => simp only []; omega
  | some p =>
    simp only []
    have hm : p ∈ tops.take j := List.mem_of_getLast? hg
    have h2 : (tops.take (j + 1)).Pairwise (· < ·) := hp.sublist (List.take_sublist _ _)
    rw [List.take_succ_eq_append_getElem h, List.pairwise_append] at h2
    have := h2.2.2 p hm tops[j] (by simp)
    omega
set_option maxHeartbeats 4000000 in
set_option maxRecDepth 100000 in
theorem whole_any (s : ByteArray) (w : World) : Calls Tryd.prog 5 #[.string s] w fun e w' => e = .returned (.bool true) ∧ Below w.heap.size w w' := by
  have HS := Lib.hid shown_any
  by_cases h5 : 2000 < s.size
  · go_enter Tryd.func5, Tryd.ntmps5
    go_wp2_with (go_at_call 10; refine (HS.out _).mono ?_; rintro e w1 ⟨rfl, hF1⟩)
    go_ret
    exact ⟨rfl, hF1.below_nil⟩
  · have H1 := Lib.hid (RC6.read_any s (by omega))
    cases hR : RX.read s with
    | error px =>
      rw [hR] at H1
      obtain ⟨p, x⟩ := px
      have de := read_errne hR
      have de1 : ¬ (x = 0) := by rwa [beq_eq_false_iff_ne] at de
      have de2 : (x != 0) = true := by simp [bne, de]
      obtain ⟨hp0, hp1⟩ := read_errpos2 hR
      have d3 : decide (0 ≤ p) = true := by rw [decide_eq_true_iff]; exact hp0
      have d4 : decide (p ≤ (s.size : Int)) = true := by rw [decide_eq_true_iff]; exact hp1
      clear hR
      go_enter Tryd.func5, Tryd.ntmps5
      go_wp2_with (first
        | (go_at_call 10; refine (HS.out _).mono ?_; rintro e w1 ⟨rfl, hF1⟩; have HF1 := Lib.hid hF1; clear hF1)
        | (go_at_call 11; refine (H1.out _).mono ?_; rintro e w2 ⟨rfl, hF2⟩; have HF2 := Lib.hid hF2; clear hF2))
      go_ret
      exact ⟨rfl, (HF1.out.trans HF2.out (by simp)).below_nil⟩
    | ok r =>
      have hsz := read_sizes hR
      have HMAY := Lib.hid (read_may hR)
      obtain ⟨hI, hlast⟩ := read_plain hR
      have HI := Lib.hid hI
      have HLAST := Lib.hid hlast
      rw [hR] at H1
      obtain ⟨n, hn⟩ : ∃ n, r.row.length = n := ⟨_, rfl⟩
      obtain ⟨m, hm⟩ : ∃ m, r.tops.length = m := ⟨_, rfl⟩
      rw [hn, hm] at hsz
      obtain ⟨hn8, hm8, hl8⟩ := hsz
      have HN := Lib.hid hn
      have HM := Lib.hid hm
      have HL8 := Lib.hid hl8
      have t1 : decide ((2000 : Int) < (s.size : Int)) = false := by rw [decide_eq_false_iff_not]; omega
      clear hR hn hm hI hlast hl8
      have hmk := run_make_row' (P := Tryd.prog) 24 3 (.int .i64 0) 8 RC6.ints_slice RC6.int_info rfl .i64 .i64 n (by omega) (by omega)
      rw [made_list] at hmk
      go_enter Tryd.func5, Tryd.ntmps5
      go_wp2_with (first
        | (go_at_call 10; refine (HS.out _).mono ?_; rintro e w1 ⟨rfl, hF1⟩; have HF1 := Lib.hid hF1; clear hF1)
        | (go_at_call 11; refine (H1.out _).mono ?_; rintro e w2 ⟨rv, tv, rs, rfl, hD, hrs⟩
           obtain ⟨A, c, hrv, -, -, -, hNd⟩ := hD.nodes
           obtain ⟨B, d, htv, -, -, -, hTd⟩ := hD.tops_row
           have hlen : rs.length = n := by have := congrArg List.length hrs; rw [List.length_map] at this; exact this.trans HN.out
           rw [hlen] at hrv
           rw [HM.out] at htv
           subst hrv htv
           have HN2 := Lib.hid (hrs ▸ hNd)
           have HT2 := Lib.hid hTd
           have HF2 := Lib.hid hD.far
           clear hD hNd hTd hrs hlen))
      clear hmk
      have HC0 : Hid (CntR w2 w2.heap.size n (fun a => ((r.row.take 0).flatMap (·.l)).count a) (w2.alloc (.cells (List.replicate n (.int .i64 0)).toArray 3))) := Lib.hid
        ⟨List.replicate n 0, by have := MM.Row.new w2 3 (List.replicate n (.int .i64 0)); simpa [ints] using this, by simp, fun a ha => by rw [List.getElem?_replicate, if_pos ha]; simp, (MM.Far.refl [] w2).alloc _⟩
      obtain ⟨ib, hib⟩ : ∃ ib, w2.heap.size = ib := ⟨_, rfl⟩
      rw [hib] at HC0
      rw [hib]
      have HIB : Hid (w2.heap.size ≤ ib) := Lib.hid (Nat.le_of_eq hib)
      clear hib
      go_loopw [58] (fun s58 wr => ∃ k : Nat, k ≤ n ∧ s58 = .int .i64 k ∧ Hid (CntR w2 ib n (fun a => ((r.row.take k).flatMap (·.l)).count a) wr)) (fun s58 _ => n - (intOf s58).toNat)
      case atStart => exact ⟨0, by omega, rfl, HC0⟩
      case round =>
        obtain ⟨k, hk, rfl, hC⟩ := hrel
        clear HC0
        by_cases hlt : k < n
        · have hk2 : k < r.row.length := by rw [HN.out]; exact hlt
          obtain ⟨b1, o1, L1, e1, rfl, hb1, a0, a1, a2, a3, a4, i1⟩ := HN2.out k hk2
          replace a0 := far_cell hC.out.far a0
          replace a1 := far_cell hC.out.far a1
          replace a2 := far_cell hC.out.far a2
          replace a3 := far_cell hC.out.far a3
          replace a4 := far_cell hC.out.far a4
          have hgd := HI.out.good _ (List.getElem_mem hk2)
          have hbl := HI.out.below k hk2
          have hl8 := HL8.out _ (List.getElem_mem hk2)
          have htk : r.row.take (k + 1) = r.row.take k ++ [r.row[k]] := by rw [List.take_succ_eq_append_getElem hk2]
          generalize r.row[k] = x at *
          obtain ⟨kd, at_, nn, ss, l⟩ := x
          simp only at a0 a1 a2 a3 a4 i1 hgd hbl hl8
          obtain ⟨hg1, hg2⟩ := hgd
          have hat0 : 0 ≤ at_ := hg1.1
          have d3 : ¬ (at_ < 0) := by omega
          have d4 : ¬ ((s.size : Int) ≤ at_) := by omega
          have d3' : decide (at_ < 0) = false := by rw [decide_eq_false_iff_not]; exact d3
          have d4' : decide ((s.size : Int) ≤ at_) = false := by rw [decide_eq_false_iff_not]; exact d4
          obtain ⟨q, hq⟩ : ∃ q, l.length = q := ⟨_, rfl⟩
          rw [hq] at a4 hl8
          have HQ := Lib.hid hq
          have HTK := Lib.hid htk
          have HBL := Lib.hid hbl
          have FA := (MM.Far.refl [] wr).alloc (.cells #[.int .u8 kd, .int .i64 at_, .int .i64 nn, .string ss, .slice L1 q e1] 34)
          have HIL := Lib.hid i1
          obtain ⟨bx, hbx⟩ : ∃ bx, wr.heap.size = bx := ⟨_, rfl⟩
          have HBX0 : Hid (MM.Row (wr.alloc (.cells #[.int .u8 kd, .int .i64 at_, .int .i64 nn, .string ss, .slice L1 q e1] 34)) bx 34 [.int .u8 kd, .int .i64 at_, .int .i64 nn, .string ss, .slice L1 q e1]) := Lib.hid (hbx ▸ MM.Row.new wr 34 [.int .u8 kd, .int .i64 at_, .int .i64 nn, .string ss, .slice L1 q e1])
          have HC1 : Hid (CntR w2 ib n (fun a => ((r.row.take k).flatMap (·.l)).count a + (l.take 0).count a) (wr.alloc (.cells #[.int .u8 kd, .int .i64 at_, .int .i64 nn, .string ss, .slice L1 q e1] 34))) := Lib.hid ((hC.out.to FA).eq (fun a _ => by simp))
          have HCK := Lib.hid hC.out
          have HBXE := Lib.hid hbx
          clear FA i1 hg1 hg2 hk2 htk hbl hq hC hbx
          go_wp2
          rw [HBXE.out]
          go_loopw [66] (fun s66 wz => ∃ j : Nat, j ≤ q ∧ s66 = .int .i64 j ∧ Hid (CntR w2 ib n (fun a => ((r.row.take k).flatMap (·.l)).count a + (l.take j).count a) wz) ∧ Hid (MM.Row wz bx 34 [.int .u8 kd, .int .i64 at_, .int .i64 nn, .string ss, .slice L1 q e1])) (fun s66 _ => q - (intOf s66).toNat)
          case atStart => exact ⟨0, by omega, rfl, HC1, HBX0⟩
          case round =>
            obtain ⟨j, hj, rfl, hC2, hBX⟩ := hrel
            clear HC1 HBX0
            by_cases hlt2 : j < q
            · have hj2 : j < l.length := by rw [HQ.out]; exact hlt2
              obtain ⟨gl, ol, hLA, hgl, hcl⟩ := HIL.out j hj2
              subst hLA
              replace hcl := far_cell hC2.out.far hcl
              have hb := HBL.out _ (List.getElem_mem hj2)
              have htj : l.take (j + 1) = l.take j ++ [l[j]] := by rw [List.take_succ_eq_append_getElem hj2]
              have hone := HI.out.one l[j]
              have hcl1 : (l.take (j + 1)).count l[j] ≤ l.count l[j] := List.Sublist.count_le _ (List.take_sublist _ _)
              have hcl2 : ((r.row.take (k + 1)).flatMap (·.l)).count l[j] ≤ (r.row.flatMap (·.l)).count l[j] := by
                have e : r.row.flatMap (·.l) = (r.row.take (k + 1)).flatMap (·.l) ++ (r.row.drop (k + 1)).flatMap (·.l) := by rw [← List.flatMap_append, List.take_append_drop]
                rw [e, List.count_append]; omega
              rw [HTK.out, List.flatMap_append, List.count_append] at hcl2
              simp only [List.flatMap_cons, List.flatMap_nil, List.append_nil] at hcl2
              unfold cnt at hone
              rw [htj, List.count_append] at hcl1
              have hself : [l[j]].count l[j] = 1 := by simp
              generalize l[j] = pv at *
              have hc0 : ((r.row.take k).flatMap (·.l)).count pv + (l.take j).count pv ≤ 0 := by split at hone <;> omega
              have hpn : pv < n := by omega
              obtain ⟨k1, k2⟩ := hC2.out.at hpn
              obtain ⟨cv, hcv⟩ : ∃ cv, ((r.row.take k).flatMap (·.l)).count pv + (l.take j).count pv = cv := ⟨_, rfl⟩
              have hcv2 : cv ≤ 1 := by omega
              simp only [hcv] at k1
              have d5 : ¬ ((pv : Int) < 0) := by omega
              have d6 : ¬ ((k : Int) ≤ (pv : Int)) := by omega
              have d5' : decide ((pv : Int) < 0) = false := by rw [decide_eq_false_iff_not]; exact d5
              have d6' : decide ((k : Int) ≤ (pv : Int)) = false := by rw [decide_eq_false_iff_not]; exact d6
              have d6'' : decide (k ≤ pv) = false := by rw [decide_eq_false_iff_not]; omega
              have HN3 : Hid (CntR w2 ib n (fun a => ((r.row.take k).flatMap (·.l)).count a + (l.take (j + 1)).count a) (wr.setCell ⟨ib, pv, none⟩ (.int .i64 ((cv : Int) + 1)))) := Lib.hid (hC2.out.inc hpn HIB.out (fun a ha => by
                simp only [htj, List.count_append, cnt_one]; omega) _ (by simp only [hcv]; omega))
              have HBX2 := Lib.hid (hBX.out.other (p := ⟨ib, pv, none⟩) (fun e => by
                obtain ⟨cs, hB, _⟩ := hC2.out
                rw [e] at hBX
                exact hB.ne hBX.out (by decide) rfl) (.int .i64 ((cv : Int) + 1)))
              clear hj2 hb htj hone hcl1 hcl2 hself hc0 hcv hC2 hBX
              go_wp2
              go_roundw
              case rel => exact ⟨j + 1, by omega, by go_num, HN3, HBX2⟩
              case measure => simp [intOf]; omega
            · obtain rfl : j = q := by omega
              have y1 := hBX.out.at (i := 1) rfl
              have HN3 : Hid (CntR w2 ib n (fun a => ((r.row.take (k + 1)).flatMap (·.l)).count a) wr) := Lib.hid (hC2.out.eq (fun a _ => by
                have e : l.take j = l := List.take_of_length_le (by rw [HQ.out]; exact Nat.le_refl _)
                rw [HTK.out, List.flatMap_append, List.count_append, e]
                simp))
              clear hC2 hBX
              go_wp2
              go_roundw
              case rel => exact ⟨k + 1, by omega, by go_num, HN3⟩
              case measure => simp [intOf]; omega
        · obtain rfl : k = n := by omega
          have HC1 : Hid (CntR w2 ib k (fun a => (r.row.flatMap (·.l)).count a + (r.tops.take 0).count a) wr) := Lib.hid (hC.out.eq (fun a _ => by
            have e : r.row.take k = r.row := List.take_of_length_le (by rw [HN.out]; exact Nat.le_refl _)
            rw [e]; simp))
          have hl0 : lastT r.tops 0 = -1 := rfl
          have HL0 := Lib.hid hl0
          clear hC hl0
          go_wp2
          go_loopw [13, 97] (fun s13 s97 wz => ∃ j : Nat, j ≤ m ∧ s97 = .int .i64 j ∧ s13 = .int .i64 (lastT r.tops j) ∧ Hid (CntR w2 ib k (fun a => (r.row.flatMap (·.l)).count a + (r.tops.take j).count a) wz)) (fun _ s97 _ => m - (intOf s97).toNat)
          case atStart => exact ⟨0, by omega, rfl, by rw [HL0.out], HC1⟩
          case round =>
            obtain ⟨j, hj, rfl, rfl, hC2⟩ := hrel
            clear HC1
            by_cases hlt2 : j < m
            · have hj2 : j < r.tops.length := by rw [HM.out]; exact hlt2
              obtain ⟨gl, ol, hLA, hgl, hcl⟩ := HT2.out j hj2
              subst hLA
              replace hcl := far_cell hC2.out.far hcl
              have hlt3 := lastT_lt HI.out.up hj2
              have hls := lastT_succ hj2
              have hb := HI.out.lt (.inl (List.getElem_mem hj2))
              rw [HN.out] at hb
              have htj : r.tops.take (j + 1) = r.tops.take j ++ [r.tops[j]] := by rw [List.take_succ_eq_append_getElem hj2]
              have hone := HI.out.one r.tops[j]
              have hcl1 : (r.tops.take (j + 1)).count r.tops[j] ≤ r.tops.count r.tops[j] := List.Sublist.count_le _ (List.take_sublist _ _)
              unfold cnt at hone
              rw [htj, List.count_append] at hcl1
              have hself : [r.tops[j]].count r.tops[j] = 1 := by simp
              generalize r.tops[j] = pv at *
              generalize lastT r.tops j = lv at *
              have hc0 : (r.row.flatMap (·.l)).count pv + (r.tops.take j).count pv ≤ 0 := by split at hone <;> omega
              obtain ⟨k1, k2⟩ := hC2.out.at hb
              obtain ⟨cv, hcv⟩ : ∃ cv, (r.row.flatMap (·.l)).count pv + (r.tops.take j).count pv = cv := ⟨_, rfl⟩
              have hcv2 : cv ≤ 1 := by omega
              simp only [hcv] at k1
              have d5 : ¬ ((pv : Int) ≤ lv) := by omega
              have d6 : ¬ ((k : Int) ≤ (pv : Int)) := by omega
              have d5' : decide ((pv : Int) ≤ lv) = false := by rw [decide_eq_false_iff_not]; exact d5
              have d6' : decide ((k : Int) ≤ (pv : Int)) = false := by rw [decide_eq_false_iff_not]; exact d6
              have d6'' : decide (k ≤ pv) = false := by rw [decide_eq_false_iff_not]; omega
              have HLS := Lib.hid hls
              have HN3 : Hid (CntR w2 ib k (fun a => (r.row.flatMap (·.l)).count a + (r.tops.take (j + 1)).count a) (wr.setCell ⟨ib, pv, none⟩ (.int .i64 ((cv : Int) + 1)))) := Lib.hid (hC2.out.inc hb HIB.out (fun a ha => by
                simp only [htj, List.count_append, cnt_one]; omega) _ (by simp only [hcv]; omega))
              clear hj2 htj hone hcl1 hself hc0 hcv hC2 hls hlt3
              go_wp2
              go_roundw
              case rel => exact ⟨j + 1, by omega, by go_num, by rw [HLS.out], HN3⟩
              case measure => simp [intOf]; omega
            · obtain rfl : j = m := by omega
              have HC3 := Lib.hid hC2.out
              have HALL : Hid (∀ a, a < k → (r.row.flatMap (·.l)).count a + (r.tops.take j).count a = 1) := Lib.hid (by
                intro a ha
                have e : r.tops.take j = r.tops := List.take_of_length_le (by rw [HM.out]; exact Nat.le_refl _)
                have := HI.out.one a
                unfold cnt at this
                rw [HN.out, if_pos ha] at this
                rw [e]
                simp at this
                omega)
              have HLT : Hid (k = 0 ∨ lastT r.tops j = (k : Int) - 1) := Lib.hid (by
                rcases HLAST.out with h | h
                · left; rw [← HN.out, h]; rfl
                · by_cases h0 : k = 0
                  · exact .inl h0
                  · right
                    have e : r.tops.take j = r.tops := List.take_of_length_le (by rw [HM.out]; exact Nat.le_refl _)
                    unfold lastT
                    rw [e, h, HN.out]
                    simp only []
                    omega)
              clear hC2
              generalize lastT r.tops j = lv at *
              go_wp2
              go_loop [120] (fun s120 => ∃ i : Nat, i ≤ k ∧ s120 = .int .i64 i) (fun s120 => k - (intOf s120).toNat)
              case atStart => exact ⟨0, by omega, rfl⟩
              case round =>
                obtain ⟨i, hi, rfl⟩ := hrel
                by_cases hlt4 : i < k
                · obtain ⟨k1, k2⟩ := HC3.out.at hlt4
                  have ha := HALL.out i hlt4
                  simp only [ha] at k1
                  clear ha
                  go_wp2
                  go_round
                  case rel => exact ⟨i + 1, by omega, by go_num⟩
                  case measure => simp [intOf]; omega
                · obtain rfl : i = k := by omega
                  have HMC := Lib.hid (fun c1 => may_yes (r.row.map toI) HMAY.out i (by rw [List.length_map]; exact HN.out) (by omega) (fun x hx => by
                    obtain ⟨z, hz, rfl⟩ := List.mem_map.1 hx
                    have := HL8.out z hz
                    simp only [toI, List.length_map]; omega) A c1 wr (NiRow.of_nd (HN2.out.far HC3.out.far)))
                  rcases HLT.out with h0 | h0
                  · have g1 : (((i : Nat) : Int) == 0) = true := by simp [h0]
                    clear h0 HLT
                    go_wp2_with fail
                    refine Calls.mono (HMC.out _) ?_
                    rintro e w7 ⟨rfl, hF7⟩
                    have HF7 := Lib.hid hF7
                    clear hF7
                    dsimp only
                    go_wp2_with fail
                    go_ret
                    exact ⟨rfl, (((HF1.out.trans HF2.out (by simp)).trans HC3.out.far (by simp)).trans HF7.out (by simp)).below_nil⟩
                  · have g2 : (lv == ((i : Nat) : Int) - 1) = true := by rw [beq_iff_eq]; exact h0
                    clear h0 HLT
                    by_cases hz : i = 0
                    · have g1 : (((i : Nat) : Int) == 0) = true := by simp [hz]
                      clear hz
                      go_wp2_with fail
                      refine Calls.mono (HMC.out _) ?_
                      rintro e w7 ⟨rfl, hF7⟩
                      have HF7 := Lib.hid hF7
                      clear hF7
                      dsimp only
                      go_wp2_with fail
                      go_ret
                      exact ⟨rfl, (((HF1.out.trans HF2.out (by simp)).trans HC3.out.far (by simp)).trans HF7.out (by simp)).below_nil⟩
                    · have g1 : (((i : Nat) : Int) == 0) = false := by rw [beq_eq_false_iff_ne]; omega
                      clear hz
                      go_wp2_with fail
                      refine Calls.mono (HMC.out _) ?_
                      rintro e w7 ⟨rfl, hF7⟩
                      have HF7 := Lib.hid hF7
                      clear hF7
                      dsimp only
                      go_wp2_with fail
                      go_ret
                      exact ⟨rfl, (((HF1.out.trans HF2.out (by simp)).trans HC3.out.far (by simp)).trans HF7.out (by simp)).below_nil⟩
end RW6
end Go.Proofs.YtkhcaejijlaohaaDoor
