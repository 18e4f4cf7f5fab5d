/-
  Layer 8's laws: a text's forms are the document's. No condition.
-/
import Derived.Test.YtaghlpolljaedaaGreatExpR21
import Derived.Test.YtaghlpolljaedaaGreatExpKd1
import Derived.Test.YtaghlpolljaedaaGreatReadLaws6
namespace Go.Proofs.YtaghlpolljaedaaGreat
open Go.RowKit
set_option linter.unusedVariables false
namespace EX
open LX RX SX
theorem nodup_le3 : ∀ (n : Nat) (l : List Nat), l.Nodup → (∀ a ∈ l, a < n) → l.length ≤ n := by
  intro n
  induction n with
  | zero =>
    intro l _ h
    cases l with
    | nil => exact Nat.le_refl _
    | cons a l => have := h a (List.mem_cons_self ..); omega
  | succ n ih =>
    intro l hn h
    have h1 := ih (l.erase n) (hn.erase n) (fun a ha => by
      have h2 := (hn.mem_erase_iff).1 ha
      have := h a h2.2
      have := h2.1
      omega)
    by_cases hm : n ∈ l
    · rw [List.length_erase_of_mem hm] at h1; omega
    · rw [List.erase_of_not_mem hm] at h1; omega
/-- Forms that are made have no more parts than there are forms, and few names. -/
theorem made_small {ns : List Nd} {f : Nat} {l : List Nat} {fs : List Fm} {ts : List Nat} (h : runTops ns f l [] [] = .ok (fs, ts)) : ∀ x ∈ fs, x.l.length ≤ fs.length ∧ x.p.length ≤ 100 := by
  obtain ⟨m, ks, e1, e2, h3, h4⟩ := runTops_made _ _ _ _ _ _ h
  rw [List.nil_append] at e1 e2
  subst e1 e2
  intro x hx
  obtain ⟨k, hk, rfl⟩ := List.getElem_of_mem hx
  obtain ⟨g1, g2⟩ := h3 k hk
  refine ⟨?_, g1.names.few⟩
  have hn : (fs[k]).l.Nodup := List.nodup_iff_count.2 fun a => by
    by_cases ha : a ∈ (fs[k]).l
    · have h5 : (fs[k]).l.count a ≤ cnt fs a := by
        unfold cnt
        have e : fs = fs.take k ++ (fs[k] :: fs.drop (k + 1)) := by rw [← List.drop_eq_getElem_cons hk, List.take_append_drop]
        conv => rhs; rw [e]
        rw [List.flatMap_append, List.flatMap_cons, List.count_append, List.count_append]
        omega
      have h6 := h4 a
      split at h6 <;> omega
    · rw [List.count_eq_zero_of_not_mem ha]; omega
  exact nodup_le3 _ _ hn (fun a ha => by have := (g2 a ha).1; simp at this; omega)
theorem wt_T (ns : List Nd) (i : Nat) : wt ns (.top i) = 16 * T ns i - 8 := rfl
theorem sum_tops (ns : List Nd) (l : List Nat) : (l.map fun i => wt ns (.top i)).sum ≤ sumT ns l := by
  unfold sumT
  induction l with
  | nil => simp
  | cons a l ih =>
    rw [List.map_cons, List.sum_cons, List.map_cons, List.sum_cons, wt_T]
    omega
/-- What may be, datum by datum. -/
theorem may_ok {ns : List Ni} (h : may ns = true) : ∀ x ∈ ns, okF x.kind x.at_ x.n x.s x.l.length = true := by
  intro x hx
  obtain ⟨k, hk, rfl⟩ := List.getElem_of_mem hx
  have : ∀ (xs : List Ni) (i : Nat) (tk : List Bool), mayG xs i tk = true → ∀ (k : Nat) (h : k < xs.length), okF xs[k].kind xs[k].at_ xs[k].n xs[k].s xs[k].l.length = true := by
    intro xs
    induction xs with
    | nil => intro i tk _ k h; simp at h
    | cons x xs ih =>
      intro i tk h k hk
      unfold mayG at h
      split at h
      · cases h
      · rename_i hok
        split at h
        · cases h
        · cases k with
          | zero => simpa using hok
          | succ k => exact ih _ _ h k (by simpa using hk)
  exact this ns 0 _ h k hk
theorem okF_at {kd at_ n : Int} {s : ByteArray} {len : Nat} (h : okF kd at_ n s len = true) : 0 ≤ at_ ∧ (kd ≠ 3 → s = emp) ∧ (kd ≠ 4 → len = 0) := by
  unfold okF at h
  by_cases h0 : at_ < 0
  · rw [if_pos h0] at h; cases h
  rw [if_neg h0] at h
  refine ⟨by omega, fun h3 => ?_, fun h4 => ?_⟩
  · by_cases h1 : kd = 1
    · rw [if_pos h1] at h
      simp only [Bool.and_eq_true, decide_eq_true_eq] at h
      exact EW.size_zero h.1
    rw [if_neg h1] at h
    by_cases h2 : kd = 2
    · rw [if_pos h2] at h
      simp only [Bool.and_eq_true, decide_eq_true_eq] at h
      exact EW.size_zero h.1.2
    rw [if_neg h2, if_neg h3] at h
    by_cases h4 : kd = 4
    · rw [if_pos h4] at h
      simp only [Bool.and_eq_true, decide_eq_true_eq] at h
      exact EW.size_zero h.2
    rw [if_neg h4] at h; cases h
  · by_cases h1 : kd = 1
    · rw [if_pos h1] at h
      simp only [Bool.and_eq_true, decide_eq_true_eq] at h
      exact h.2
    rw [if_neg h1] at h
    by_cases h2 : kd = 2
    · rw [if_pos h2] at h
      simp only [Bool.and_eq_true, decide_eq_true_eq] at h
      exact h.2
    rw [if_neg h2] at h
    by_cases h3 : kd = 3
    · rw [if_pos h3] at h
      simp only [Bool.and_eq_true, decide_eq_true_eq] at h
      exact h.2
    rw [if_neg h3, if_neg h4] at h; cases h
end EX
namespace EW
open LX SX RW6 EX
open RX (Nd Rd)
open RM6 (Kin)
theorem dta_of {w : World} {DA : Option Addr} {n : Nat} {ns : List Nd} (hN : NdR w DA ns) (hn : ns.length = n) (hok : Ok ns) (hm : RX.may (ns.map RX.toI) = true) (hl : ∀ x ∈ ns, x.l.length ≤ 100000) : Dta w DA n ns := by
  have h1 : ∀ x ∈ ns, 0 ≤ x.at_ ∧ (x.kind ≠ 3 → x.s = emp) ∧ (x.kind ≠ 4 → x.l = []) := fun x hx => by
    have := okF_at (may_ok hm (RX.toI x) (List.mem_map_of_mem hx))
    refine ⟨this.1, this.2.1, fun h4 => List.eq_nil_of_length_eq_zero ?_⟩
    have h5 := this.2.2 h4
    simpa [RX.toI] using h5
  exact ⟨hN, hn, hok, fun i => ndAt_all (Q := fun x => x.kind ≠ 3 → x.s = emp) (fun x hx => (h1 x hx).2.1) (fun _ => rfl) i, fun i => ndAt_all (Q := fun x => x.l.length ≤ 100000) hl (by simp) i,
    fun i => ndAt_all (Q := fun x => 0 ≤ x.at_) (fun x hx => (h1 x hx).1) (by simp) i, fun i => ndAt_all (Q := fun x => x.kind ≠ 4 → x.l = []) (fun x hx => (h1 x hx).2.2) (fun _ => rfl) i⟩
/-- The document's forms of what was read. -/
theorem dcode_any {w0 w w1 : World} {rv tv : Value} {rs : List (Nd × Value)} {s : ByteArray} {r : Rd} (hR : RX.read s = .ok r) (h : Done w0 w rv tv rs r.tops) (hrs : rs.map (·.1) = r.row) (hs : r.row.length ≤ 6000) (f : MM.Far [] w w1) :
    Calls Tryz.prog 8 #[rv, tv] w1 (DxpQ w1 (EX.expand r.row r.tops)) := by
  obtain ⟨A, c, rfl, hN⟩ := done_rows h
  have hlen : rs.length = r.row.length := by rw [← hrs, List.length_map]
  rw [hrs] at hN
  obtain ⟨TA, tc, htv, -⟩ := own_ints (h.kin.each (tv, r.tops) (List.mem_cons_self ..))
  have htv : tv = .slice TA r.tops.length tc := htv
  subst htv
  have hT : Sl w [] (.slice TA r.tops.length tc) ((zI r.tops).map num) := by
    rw [zI_nums]
    exact Sl.own (h.kin.each (.slice TA r.tops.length tc, r.tops) (List.mem_cons_self ..)) (fun b _ => by simp)
  have hsz := RX.read_sizes hR
  have hl2 := hs
  have hN1 := hN.far f
  have hM := dmay_any (r.row.map RX.toI) r.row.length (by rw [List.length_map]) (by omega) (fun x hx => by
    obtain ⟨y, hy, rfl⟩ := List.mem_map.1 hx
    have := hsz.2.2 y hy
    simp only [RX.toI, List.length_map]; omega) A c w1 (NiRow.of_nd hN1.row)
  rw [RX.read_may hR] at hM
  have hT2 := read_T hR
  have hS : sumT r.row r.tops = 16 * (r.tops.map (T r.row)).sum := by
    unfold sumT
    induction r.tops with
    | nil => rfl
    | cons a l ih => rw [List.map_cons, List.sum_cons, List.map_cons, List.sum_cons, ih]; omega
  have D := dta_of hN1 rfl (read_ok_data hR) (RX.read_may hR) (fun x hx => by have := hsz.2.2 x hx; omega)
  have := dexpand_any (c := c) D hM (hT.far f (by simp)) (zI_len _) (by omega) (inRange_of (read_tops_lt hR)) (by rw [zI_back]; omega) (fun i hi => by
    rw [zI_back] at hi
    have h1 := EX.sum_mem (f := T r.row) hi
    rw [wt_T]
    omega)
  rw [zI_back, ← hlen] at this
  exact this
theorem dnil_any (w : World) : Calls Tryz.prog 8 #[.slice none 0 0, .slice none 0 0] w (DxpQ w (.ok ([], []))) := by
  have hN : NdR w none [] := fun k hk => by simp at hk
  have hM := dmay_any [] 0 rfl (by omega) (fun x hx => by cases hx) none 0 w (fun k hk => by simp at hk)
  rw [show RX.may [] = true from rfl] at hM
  have D : Dta w none 0 [] := dta_of hN rfl ⟨(fun x hx => absurd hx (by simp)), (fun x hx => absurd hx (by simp)), (fun i hi => absurd hi (by simp)), (fun i hi => absurd hi (by simp)), (fun i hi => absurd hi (by simp))⟩ rfl (fun x hx => absurd hx (by simp))
  exact dexpand_any D hM (Sl.nil _ _) (zs := []) rfl (by omega) rfl (by decide) (fun i hi => by cases hi)
set_option maxHeartbeats 4000000 in
set_option maxRecDepth 20000 in
theorem text_any (s : ByteArray) (w : World) : Calls Tryz.prog 4 #[.string s] w fun e w' => e = .returned (.bool true) ∧ Below w.heap.size w w' := by
  have HS := Lib.hid shown_any
  by_cases h5 : 1000 < s.size
  · have h5i : (1000 : Int) < (s.size : Int) := by omega
    go_enter Tryz.func4, Tryz.ntmps4
    go_wp2_with (go_at_call 5; (with_reducible refine (HS.out _).mono ?_); rintro e w1 ⟨rfl, hF1⟩)
    go_ret
    exact ⟨rfl, hF1.below_nil⟩
  have h5i : ¬ (1000 : Int) < (s.size : Int) := by omega
  have HRD := Lib.hid (fun w => RM6.rread_any s (by omega) w)
  cases hR : RX.read s with
  | error px =>
    obtain ⟨p, x⟩ := px
    rw [hR] at HRD
    have HCN := Lib.hid nil_any
    have HDN := Lib.hid dnil_any
    clear hR h5
    go_enter Tryz.func4, Tryz.ntmps4
    go_wp2_with (first
      | (go_at_call 5; (with_reducible refine (HS.out _).mono ?_); rintro e w1 ⟨rfl, hF1⟩; have HF1 := Lib.hid hF1; clear hF1)
      | (go_at_call 13; (with_reducible refine (HRD.out _).mono ?_); rintro e w2 hQ; obtain ⟨rfl, hF2⟩ : e = .returned (.tuple #[.slice none 0 0, .slice none 0 0, .int .i64 p, .int .i64 x]) ∧ MM.Far [] w1 w2 := hQ; have HF2 := Lib.hid (HF1.out.trans hF2 (by simp)); clear hF2)
      | (go_at_call 6; (with_reducible refine (HCN.out _).mono ?_); rintro e w3 hQ; have hQ := ExpQ.dxp hQ; obtain ⟨A3, c3, T3, d3, rfl, hF3, hT3, hf3⟩ := hQ; have HFM3 := Lib.hid hF3; have HT3 := Lib.hid hT3; have HF3 := Lib.hid (HF2.out.trans hf3 (by simp)); clear hF3 hT3 hf3)
      | (go_at_call 8; (with_reducible refine (HDN.out _).mono ?_); rintro e w4 hQ; obtain ⟨A4, c4, T4, d4, rfl, hF4, hT4, hf4⟩ := hQ; have HSM := Lib.hid (fsame_yes [] 0 rfl (by omega) (fun x hx => by cases hx) A3 A4 c3 c4 w4 (HFM3.out.far hf4) hF4); have HIN := Lib.hid (fun (w5 : World) (f : MM.Far [] w4 w5) => ints_call (l := []) (n := 0) (c1 := d3) (c2 := d4) rfl (by omega) ((HT3.out.far hf4).far f) (hT4.far f)); have HF4 := Lib.hid (HF3.out.trans hf4 (by simp)); clear hF4 hT4 hf4)
      | (go_at_call 9; (refine HSM.out.mono ?_); rintro e w5 ⟨rfl, hF5⟩; have HI5 := Lib.hid (HIN.out _ hF5); have HF5 := Lib.hid (HF4.out.trans hF5 (by simp)); clear hF5)
      | (go_at_call 10; (refine HI5.out.mono ?_); rintro e w6 ⟨rfl, hF6⟩; have HF6 := Lib.hid (HF5.out.trans hF6 (by simp)); clear hF6))
    go_ret
    exact ⟨rfl, HF6.out.below_nil⟩
  | ok r =>
    rw [hR] at HRD
    have hrl := read_len hR
    have HC := Lib.hid (fun (w0 w1 : World) (rv tv : Value) (rs : List (Nd × Value)) (h : Done w0 w1 rv tv rs r.tops) (hrs : rs.map (·.1) = r.row) => code_any hR h hrs (by omega))
    have HD := Lib.hid (fun (w0 w1 w2 : World) (rv tv : Value) (rs : List (Nd × Value)) (h : Done w0 w1 rv tv rs r.tops) (hrs : rs.map (·.1) = r.row) (f : MM.Far [] w1 w2) => dcode_any hR h hrs (by omega) f)
    have hlen : ∀ fs ts, EX.expand r.row r.tops = .ok (fs, ts) → fs.length ≤ 100000 ∧ ts.length ≤ 100000 ∧ ∀ x ∈ fs, x.l.length ≤ 100000 ∧ x.p.length ≤ 100000 := fun fs ts h => by
      have h1 := runTops_len (read_ok_data hR) _ _ _ _ _ _ h
      have h2 := sum_wt r.row r.tops
      rw [read_T hR] at h2
      have h3 := (RX.read_sizes hR).2.1
      have h4 := made_small h
      have hl1 : fs.length ≤ 100000 := by have := h1.1; simp at this; omega
      refine ⟨hl1, by have := h1.2; simp at this; omega, fun x hx => ?_⟩
      have := h4 x hx
      omega
    clear hR hrl h5
    have HRD2 := Lib.hid (fun (w : World) => HRD.out w)
    cases hX : EX.expand r.row r.tops with
    | error a =>
      rw [hX] at HC HD
      clear hX hlen HRD
      go_enter Tryz.func4, Tryz.ntmps4
      go_wp2_with (first
        | (go_at_call 5; (with_reducible refine (HS.out _).mono ?_); rintro e w1 ⟨rfl, hF1⟩; have HF1 := Lib.hid hF1; clear hF1)
        | (go_at_call 13; (with_reducible refine (HRD2.out _).mono ?_); rintro e w2 ⟨rv, tv0, rs0, rfl, hD0, hrs0⟩; have HF2 := Lib.hid (HF1.out.trans hD0.far (by simp)); have HC1 := Lib.hid (HC.out _ _ _ _ _ hD0 hrs0); have HD1 := Lib.hid (fun w3 f => HD.out _ _ w3 _ _ _ hD0 hrs0 f); clear hD0 hrs0)
        | (go_at_call 6; (with_reducible refine HC1.out.mono ?_); rintro e w3 hQ2; obtain ⟨rfl, hF3⟩ : e = .returned (.tuple #[.slice none 0 0, .slice none 0 0, .int .i64 a, .int .i64 80]) ∧ MM.Far [] w2 w3 := hQ2; have HD2 := Lib.hid (HD1.out _ hF3); have HF3 := Lib.hid (HF2.out.trans hF3 (by simp)); clear hF3)
        | (go_at_call 8; (with_reducible refine HD2.out.mono ?_); rintro e w4 hQ2; obtain ⟨rfl, hF4⟩ : e = .returned (.tuple #[.slice none 0 0, .slice none 0 0, .int .i64 a, .int .i64 80]) ∧ MM.Far [] w3 w4 := hQ2; have HSM := Lib.hid (fsame_yes [] 0 rfl (by omega) (fun x hx => by cases hx) none none 0 0 w4 (fun k hk => by simp at hk) (fun k hk => by simp at hk)); have HIN := Lib.hid (fun (w5 : World) => ints_call (w := w5) (A1 := none) (A2 := none) (l := []) (n := 0) (c1 := 0) (c2 := 0) rfl (by omega) (introw_nil _ _) (introw_nil _ _)); have HF4 := Lib.hid (HF3.out.trans hF4 (by simp)); clear hF4)
        | (go_at_call 9; (refine HSM.out.mono ?_); rintro e w5 ⟨rfl, hF5⟩; have HI5 := Lib.hid (HIN.out w5); have HF5 := Lib.hid (HF4.out.trans hF5 (by simp)); clear hF5)
        | (go_at_call 10; (refine HI5.out.mono ?_); rintro e w6 ⟨rfl, hF6⟩; have HF6 := Lib.hid (HF5.out.trans hF6 (by simp)); clear hF6))
      go_ret
      exact ⟨rfl, HF6.out.below_nil⟩
    | ok y =>
      obtain ⟨fs, ts⟩ := y
      rw [hX] at HC HD
      obtain ⟨hl1, hl2, hl3⟩ := hlen fs ts hX
      obtain ⟨n1, hn1⟩ : ∃ n, fs.length = n := ⟨_, rfl⟩
      obtain ⟨n2, hn2⟩ : ∃ n, ts.length = n := ⟨_, rfl⟩
      rw [hn1] at hl1
      rw [hn2] at hl2
      have HSA := Lib.hid (fun (A1 A2 : Option Addr) (c1 c2 : Nat) (w : World) (h1 : FmR w A1 fs) (h2 : FmR w A2 fs) => fsame_yes fs n1 hn1 hl1 hl3 A1 A2 c1 c2 w h1 h2)
      have HIA := Lib.hid (fun (w : World) (A1 A2 : Option Addr) (c1 c2 : Nat) (h1 : IntRow w A1 ts) (h2 : IntRow w A2 ts) => ints_call (c1 := c1) (c2 := c2) hn2 hl2 h1 h2)
      have HN1 := Lib.hid hn1
      have HN2 := Lib.hid hn2
      clear hX hlen hl1 hl2 hl3 hn1 hn2 HRD
      go_enter Tryz.func4, Tryz.ntmps4
      go_wp2_with (first
        | (go_at_call 5; (with_reducible refine (HS.out _).mono ?_); rintro e w1 ⟨rfl, hF1⟩; have HF1 := Lib.hid hF1; clear hF1)
        | (go_at_call 13; (with_reducible refine (HRD2.out _).mono ?_); rintro e w2 ⟨rv, tv0, rs0, rfl, hD0, hrs0⟩; have HF2 := Lib.hid (HF1.out.trans hD0.far (by simp)); have HC1 := Lib.hid (HC.out _ _ _ _ _ hD0 hrs0); have HD1 := Lib.hid (fun w3 f => HD.out _ _ w3 _ _ _ hD0 hrs0 f); clear hD0 hrs0)
        | (go_at_call 6; (with_reducible refine HC1.out.mono ?_); rintro e w3 hQ; have hQ := ExpQ.dxp hQ; obtain ⟨A3, c3, T3, d3, he, hF3, hT3, hf3⟩ := hQ; (replace he : e = .returned (.tuple #[.slice A3 fs.length c3, .slice T3 ts.length d3, .int .i64 0, .int .i64 0]) := he); rw [HN1.out, HN2.out] at he; subst he; have HD2 := Lib.hid (HD1.out _ hf3); have HFM3 := Lib.hid hF3; have HT3 := Lib.hid hT3; have HF3 := Lib.hid (HF2.out.trans hf3 (by simp)); clear hF3 hT3 hf3)
        | (go_at_call 8; (with_reducible refine HD2.out.mono ?_); rintro e w4 hQ; obtain ⟨A4, c4, T4, d4, he, hF4, hT4, hf4⟩ := hQ; (replace he : e = .returned (.tuple #[.slice A4 fs.length c4, .slice T4 ts.length d4, .int .i64 0, .int .i64 0]) := he); rw [HN1.out, HN2.out] at he; subst he; have HSM := Lib.hid (HSA.out A3 A4 c3 c4 w4 (HFM3.out.far hf4) hF4); have HIN := Lib.hid (fun (w5 : World) (f : MM.Far [] w4 w5) => HIA.out w5 T3 T4 d3 d4 ((HT3.out.far hf4).far f) (hT4.far f)); have HF4 := Lib.hid (HF3.out.trans hf4 (by simp)); clear hF4 hT4 hf4)
        | (go_at_call 9; (refine HSM.out.mono ?_); rintro e w5 ⟨rfl, hF5⟩; have HI5 := Lib.hid (HIN.out _ hF5); have HF5 := Lib.hid (HF4.out.trans hF5 (by simp)); clear hF5)
        | (go_at_call 10; (refine HI5.out.mono ?_); rintro e w6 ⟨rfl, hF6⟩; have HF6 := Lib.hid (HF5.out.trans hF6 (by simp)); clear hF6))
      go_ret
      exact ⟨rfl, HF6.out.below_nil⟩
end EW
end Go.Proofs.YtaghlpolljaedaaGreat
