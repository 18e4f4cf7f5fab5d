/-
  Contract of the code's May. Conditions: sizes.
-/
import Derived.Test.YtkhcaejijlaohaaDoorReadMay1
import Derived.Deep.RegionHeld3
import Derived.Deep.DeepCutAuto
namespace Go.Proofs.YtkhcaejijlaohaaDoor
open Go.RowKit
set_option linter.unusedVariables false
namespace RW6
open LX RX RM6
/-- A row of numbers, in none of the blocks S. -/
def IRow (w : World) (S : List Nat) (A : Option Addr) (l : List Int) : Prop :=
  ∀ (k : Nat) (h : k < l.length), ∃ b o, A = some ⟨b, o, none⟩ ∧ b ∉ S ∧ b < w.heap.size ∧ w.cell? ⟨b, o + k, none⟩ = some (.int .i64 l[k])
theorem IRow.far {w w' : World} {S : List Nat} {A : Option Addr} {l : List Int} (h : IRow w S A l) (f : MM.Far S w w') : IRow w' S A l := by
  intro k hk
  obtain ⟨b, o, e, hS, hb, c⟩ := h k hk
  exact ⟨b, o, e, hS, Nat.lt_of_lt_of_le hb f.size, (f.cell (p := ⟨b, o + k, none⟩) hb hS).trans c⟩
theorem IRow.of_int {w : World} {A : Option Addr} {l : List Nat} (h : IntRow w A l) : IRow w [] A (l.map (fun p : Nat => (p : Int))) := by
  intro k hk
  obtain ⟨b, o, e, hb, c⟩ := h k (by simpa using hk)
  exact ⟨b, o, e, by simp, hb, by rw [c]; simp⟩
theorem IRow.new {w w' : World} {S : List Nat} {A : Option Addr} {l : List Int} (h : IRow w S A l) (f : MM.Far S w w') (b : Nat) (hb : w.heap.size ≤ b) : IRow w' (b :: S) A l := by
  intro k hk
  obtain ⟨b2, o, e, hS, hb2, c⟩ := h k hk
  exact ⟨b2, o, e, by simp only [List.mem_cons, not_or]; exact ⟨by omega, hS⟩, Nat.lt_of_lt_of_le hb2 f.size, (f.cell (p := ⟨b2, o + k, none⟩) hb2 hS).trans c⟩
def bools (tk : List Bool) : List Value := tk.map .bool
theorem bools_at {tk : List Bool} {k : Nat} (h : k < tk.length) : (bools tk)[k]? = some (.bool tk[k]) := by unfold bools; rw [List.getElem?_map, List.getElem?_eq_getElem h]; rfl
theorem bools_set (tk : List Bool) (k : Nat) (b : Bool) : (bools tk).set k (.bool b) = bools (tk.set k b) := by unfold bools; rw [List.map_set]
/-- What it comes to, to take a list's places. -/
def TakeP (w : World) (tb : Nat) (R : Option (List Bool)) (e : Ending) (w' : World) : Prop := MM.Far [tb] w w' ∧ match R with
  | none => e = .returned (.bool false)
  | some tk => e = .returned (.bool true) ∧ MM.Row w' tb 4 (bools tk)
def TakeI (w : World) (tb i : Nat) (l : List Int) (tk : List Bool) (R : Option (List Bool)) (j : Nat) (wr : World) : Prop :=
  ∃ tj, MM.Row wr tb 4 (bools tj) ∧ MM.Far [tb] w wr ∧ tj.length = tk.length ∧ takeL i (l.drop j) tj = R
set_option maxHeartbeats 2000000 in
set_option maxRecDepth 20000 in
theorem take_all (tb i n : Nat) (tk : List Bool) (hi : i ≤ tk.length) (_hin : i ≤ n) (_hn : n ≤ 100000) (l : List Int) (m : Nat) (hm : l.length = m) (hm2 : m ≤ 100000) (LA : Option Addr) (c : Nat) (w : World) (hB : MM.Row w tb 4 (bools tk)) (hL : IRow w [tb] LA l) :
    Calls Tryd.prog 24 #[.slice (some ⟨tb, 0, none⟩) i n, .slice LA m c] w (TakeP w tb (takeL i l tk)) := by
  obtain ⟨R, hR⟩ : ∃ R, takeL i l tk = R := ⟨_, rfl⟩
  have HT0 : Hid (TakeI w tb i l tk R 0 w) := Lib.hid ⟨tk, hB, MM.Far.refl _ _, rfl, by rw [List.drop_zero]; exact hR⟩
  rw [hR]
  have HL := Lib.hid hL
  have HM := Lib.hid hm
  have HI := Lib.hid hi
  clear hR hB hL hm hi
  go_enter Tryd.func24, Tryd.ntmps24
  go_wp2
  go_loopw [9] (fun s9 wr => ∃ j : Nat, j ≤ m ∧ s9 = .int .i64 j ∧ Hid (TakeI w tb i l tk R j wr)) (fun s9 _ => m - (intOf s9).toNat)
  case atStart => exact ⟨0, by omega, rfl, HT0⟩
  case round =>
    obtain ⟨j, hj, rfl, hI⟩ := hrel
    obtain ⟨tj, hB, hF, hl, hR⟩ := hI.out
    clear hI HT0
    by_cases hlt : j < m
    · have hj2 : j < l.length := by rw [HM.out]; exact hlt
      obtain ⟨b, o, rfl, hbS, hb, hc⟩ := (HL.out.far hF) j hj2
      rw [List.drop_eq_getElem_cons hj2] at hR
      generalize l[j] = p at *
      unfold takeL at hR
      have HF := Lib.hid hF
      have HB := Lib.hid hB
      have HLn := Lib.hid hl
      clear hF hB hl hj2
      by_cases h1 : p < 0
      · rw [if_pos (.inl h1)] at hR
        have HR := Lib.hid hR
        have d1 : decide (p < 0) = true := by rw [decide_eq_true_iff]; exact h1
        clear hR
        go_wp2
        go_ret
        refine ⟨HF.out, ?_⟩
        rw [← HR.out]
        rfl
      · by_cases h2 : (i : Int) ≤ p
        · rw [if_pos (.inr h2)] at hR
          have HR := Lib.hid hR
          have d1 : decide (p < 0) = false := by rw [decide_eq_false_iff_not]; exact h1
          have d2 : decide ((i : Int) ≤ p) = true := by rw [decide_eq_true_iff]; exact h2
          clear hR
          go_wp2
          go_ret
          refine ⟨HF.out, ?_⟩
          rw [← HR.out]
          rfl
        · rw [if_neg (by omega)] at hR
          obtain ⟨q, rfl⟩ : ∃ q : Nat, p = (q : Int) := ⟨p.toNat, by omega⟩
          have hq : q < tj.length := by rw [HLn.out]; have := HI.out; omega
          have hqi : q < i := by omega
          rw [Int.toNat_natCast] at hR
          have hgd : tj.getD q false = tj[q] := by rw [List.getD_eq_getElem?_getD, List.getElem?_eq_getElem hq]; rfl
          rw [hgd] at hR
          have hcell := HB.out.at (bools_at hq)
          have hfz := HB.out.frozen q
          have g1 : (q : Int) < (i : Int) := by omega
          obtain ⟨bt, hbt⟩ : ∃ bt, tj[q] = bt := ⟨_, rfl⟩
          rw [hbt] at hR hcell
          clear hgd hbt h1 h2
          cases bt with
          | true =>
            rw [if_pos rfl] at hR
            have HR := Lib.hid hR
            clear hR
            go_wp2
            go_ret
            refine ⟨HF.out, ?_⟩
            rw [← HR.out]
            rfl
          | false =>
            rw [if_neg (by simp)] at hR
            have HR := Lib.hid hR
            have HN : Hid (TakeI w tb i l tk R (j + 1) (wr.setCell ⟨tb, q, none⟩ (.bool true))) := Lib.hid ⟨tj.set q true, by rw [← bools_set]; exact HB.out.put q _, HF.out.trans (one_far wr tb q _) (by simp), by rw [List.length_set]; exact HLn.out, HR.out⟩
            clear hR
            go_wp2
            go_roundw
            case rel => exact ⟨j + 1, by omega, by go_num, HN⟩
            case measure => simp [intOf]; omega
    · obtain rfl : j = m := by omega
      rw [List.drop_of_length_le (by rw [HM.out]; exact Nat.le_refl _)] at hR
      have HB := Lib.hid hB
      have HF := Lib.hid hF
      have HR : Hid (some tj = R) := Lib.hid hR
      clear hR hB hF hl
      go_wp2
      go_ret
      refine ⟨HF.out, ?_⟩
      rw [← HR.out]
      exact ⟨rfl, HB.out⟩
/-- A row of data with any places, in none of the blocks S. -/
def NiRow (w : World) (S : List Nat) (A : Option Addr) (ns : List Ni) : Prop :=
  ∀ (k : Nat) (h : k < ns.length), ∃ b o LA c, A = some ⟨b, o, none⟩ ∧ b ∉ S ∧ b < w.heap.size ∧ w.cell? ⟨b, o + k * 5, none⟩ = some (.int .u8 ns[k].kind) ∧ w.cell? ⟨b, o + k * 5 + 1, none⟩ = some (.int .i64 ns[k].at_) ∧
    w.cell? ⟨b, o + k * 5 + 2, none⟩ = some (.int .i64 ns[k].n) ∧ w.cell? ⟨b, o + k * 5 + 3, none⟩ = some (.string ns[k].s) ∧ w.cell? ⟨b, o + k * 5 + 4, none⟩ = some (.slice LA ns[k].l.length c) ∧ IRow w S LA ns[k].l
theorem NiRow.far {w w' : World} {S : List Nat} {A : Option Addr} {ns : List Ni} (h : NiRow w S A ns) (f : MM.Far S w w') : NiRow w' S A ns := by
  intro k hk
  obtain ⟨b, o, LA, c, e, hS, hb, c0, c1, c2, c3, c4, hI⟩ := h k hk
  have g (x : Nat) : w'.cell? ⟨b, x, none⟩ = w.cell? ⟨b, x, none⟩ := f.cell (p := ⟨b, x, none⟩) hb hS
  exact ⟨b, o, LA, c, e, hS, Nat.lt_of_lt_of_le hb f.size, (g _).trans c0, (g _).trans c1, (g _).trans c2, (g _).trans c3, (g _).trans c4, hI.far f⟩
theorem NiRow.new {w w' : World} {S : List Nat} {A : Option Addr} {ns : List Ni} (h : NiRow w S A ns) (f : MM.Far S w w') (b : Nat) (hb : w.heap.size ≤ b) : NiRow w' (b :: S) A ns := by
  intro k hk
  obtain ⟨b2, o, LA, c, e, hS, hb2, c0, c1, c2, c3, c4, hI⟩ := h k hk
  have g (x : Nat) : w'.cell? ⟨b2, x, none⟩ = w.cell? ⟨b2, x, none⟩ := f.cell (p := ⟨b2, x, none⟩) hb2 hS
  exact ⟨b2, o, LA, c, e, by simp only [List.mem_cons, not_or]; exact ⟨by omega, hS⟩, Nat.lt_of_lt_of_le hb2 f.size, (g _).trans c0, (g _).trans c1, (g _).trans c2, (g _).trans c3, (g _).trans c4, hI.new f b hb⟩
theorem NiRow.of_nd {w : World} {A : Option Addr} {ns : List Nd} (h : NdRow w A ns) : NiRow w [] A (ns.map toI) := by
  intro k hk
  obtain ⟨b, o, LA, c, e, hb, c0, c1, c2, c3, c4, hI⟩ := h k (by simpa using hk)
  refine ⟨b, o, LA, c, e, by simp, hb, ?_, ?_, ?_, ?_, ?_, ?_⟩
  · rw [c0]; simp [toI]
  · rw [c1]; simp [toI]
  · rw [c2]; simp [toI]
  · rw [c3]; simp [toI]
  · rw [c4]; simp [toI]
  · have := IRow.of_int hI
    rw [List.getElem_map]
    exact this
theorem made_list (z : Value) (n : Nat) : madeCells #[z] n = (List.replicate n z).toArray := by
  apply Array.ext
  · simp [size_madeCells]
  · intro i h1 h2
    simp [madeCells, Nat.mod_one]
theorem bools_slice : Tryd.prog.underlying 58 = some (.slice 4) := by kernel_rfl
theorem bool_info : (Tryd.prog.info? 4).map (fun i => (i.zero, i.size, i.bytes)) = some (some (.bool false), 1, 1) := by kernel_rfl
theorem bools_rep (n : Nat) : bools (List.replicate n false) = List.replicate n (.bool false) := by simp [bools]
theorem far_cell {w w' : World} {p : Addr} {v : Value} (hF : MM.Far [] w w') (h : w.cell? p = some v) : w'.cell? p = some v := (hF.cell (World.block_lt_of_cell? w _ h) (by simp)).trans h
theorem far_five {w w' : World} {p0 p1 p2 p3 p4 : Addr} {v0 v1 v2 v3 v4 : Value} (hF : MM.Far [] w w') (h : w.cell? p0 = some v0 ∧ w.cell? p1 = some v1 ∧ w.cell? p2 = some v2 ∧ w.cell? p3 = some v3 ∧ w.cell? p4 = some v4) :
    w'.cell? p0 = some v0 ∧ w'.cell? p1 = some v1 ∧ w'.cell? p2 = some v2 ∧ w'.cell? p3 = some v3 ∧ w'.cell? p4 = some v4 := ⟨far_cell hF h.1, far_cell hF h.2.1, far_cell hF h.2.2.1, far_cell hF h.2.2.2.1, far_cell hF h.2.2.2.2⟩
theorem row_five {w : World} {b : Nat} {t : TypeId} {v0 v1 v2 v3 v4 : Value} (h : MM.Row w b t [v0, v1, v2, v3, v4]) : w.cell? ⟨b, 0, none⟩ = some v0 ∧ w.cell? ⟨b, 1, none⟩ = some v1 ∧ w.cell? ⟨b, 2, none⟩ = some v2 ∧ w.cell? ⟨b, 3, none⟩ = some v3 ∧ w.cell? ⟨b, 4, none⟩ = some v4 :=
  ⟨h.at (i := 0) rfl, h.at (i := 1) rfl, h.at (i := 2) rfl, h.at (i := 3) rfl, h.at (i := 4) rfl⟩
theorem far_dt {S : List Nat} {a w w2 w' : World} (h : MM.Far S a w) (hF : MM.Far [] w2 w') (e : w2 = w.drew ∨ w2 = w) : MM.Far S a w' := by
  rcases e with rfl | rfl
  · exact h.drew.trans hF (by simp)
  · exact h.trans hF (by simp)
theorem row_dt {w w2 w' : World} {b : Nat} {T : TypeId} {l : List Value} (h : MM.Row w b T l) (hF : MM.Far [] w2 w') (e : w2 = w.drew ∨ w2 = w) : MM.Row w' b T l := by
  rcases e with rfl | rfl
  · exact h.drew.far hF (by simp)
  · exact h.far hF (by simp)
theorem row_drew {w w2 : World} {b : Nat} {T : TypeId} {l : List Value} (h : MM.Row w b T l) (e : w2 = w.drew ∨ w2 = w) : MM.Row w2 b T l := by
  rcases e with rfl | rfl
  · exact h.drew
  · exact h
theorem irow_drew {w w2 : World} {S : List Nat} {A : Option Addr} {l : List Int} (h : IRow w S A l) (e : w2 = w.drew ∨ w2 = w) : IRow w2 S A l := by
  rcases e with rfl | rfl
  · exact h.far (MM.Far.refl S w).drew
  · exact h
theorem far_dtS {S : List Nat} {tb : Nat} {a w w2 w' : World} (h : MM.Far S a w) (hF : MM.Far [tb] w2 w') (e : w2 = w.drew ∨ w2 = w) (hS : tb < a.heap.size → tb ∈ S) : MM.Far S a w' := by
  have hh : ∀ b, b ∈ [tb] → b < a.heap.size → b ∈ S := fun b hb hl => by
    have e : b = tb := by simpa using hb
    subst e
    exact hS hl
  rcases e with rfl | rfl
  · exact h.drew.trans hF hh
  · exact h.trans hF hh
theorem far_cell_at {S : List Nat} {w w' : World} {p : Addr} {v : Value} (hF : MM.Far S w w') (hn : p.block ∉ S) (h : w.cell? p = some v) : w'.cell? p = some v := (hF.cell (World.block_lt_of_cell? w _ h) hn).trans h
theorem far_five_at {S : List Nat} {w w' : World} {b : Nat} {v0 v1 v2 v3 v4 : Value} (hF : MM.Far S w w') (hn : b ∉ S) (h : w.cell? ⟨b, 0, none⟩ = some v0 ∧ w.cell? ⟨b, 1, none⟩ = some v1 ∧ w.cell? ⟨b, 2, none⟩ = some v2 ∧ w.cell? ⟨b, 3, none⟩ = some v3 ∧ w.cell? ⟨b, 4, none⟩ = some v4) :
    w'.cell? ⟨b, 0, none⟩ = some v0 ∧ w'.cell? ⟨b, 1, none⟩ = some v1 ∧ w'.cell? ⟨b, 2, none⟩ = some v2 ∧ w'.cell? ⟨b, 3, none⟩ = some v3 ∧ w'.cell? ⟨b, 4, none⟩ = some v4 :=
  ⟨far_cell_at hF hn h.1, far_cell_at hF hn h.2.1, far_cell_at hF hn h.2.2.1, far_cell_at hF hn h.2.2.2.1, far_cell_at hF hn h.2.2.2.2⟩
/-- What holds at the head of May's loop. -/
def MayI (w : World) (tb : Nat) (ns : List Ni) (R : Bool) (k : Nat) (wr : World) : Prop :=
  ∃ tk, MM.Row wr tb 4 (bools tk) ∧ MM.Far [] w wr ∧ tk.length = ns.length ∧ mayG (ns.drop k) k tk = R
set_option maxHeartbeats 4000000 in
set_option maxRecDepth 20000 in
theorem may_yes (ns : List Ni) (hyes : may ns = true) (n : Nat) (hn : ns.length = n) (hn2 : n ≤ 100000) (hl : ∀ x ∈ ns, x.l.length ≤ 100000) (A : Option Addr) (c : Nat) (w : World) (hN : NiRow w [] A ns) :
    Calls Tryd.prog 15 #[.slice A n c] w fun e w' => e = .returned (.bool true) ∧ MM.Far [] w w' := by
  obtain ⟨R, hR⟩ : ∃ R, may ns = R := ⟨_, rfl⟩
  have HYES : Hid (R = true) := Lib.hid (hR.symm.trans hyes)
  clear hyes
  unfold may at hR
  have HR := Lib.hid hR
  have HN := Lib.hid hn
  have HL := Lib.hid hl
  have HNi := Lib.hid hN
  clear hR hn hl hN
  go_enter Tryd.func15, Tryd.ntmps15
  have hmk := run_make_row' (P := Tryd.prog) 58 4 (.bool false) 1 bools_slice bool_info rfl .i64 .i64 n (by omega) (by omega)
  rw [made_list] at hmk
  go_wp2
  clear hmk
  have HI0 : Hid (MayI w w.heap.size ns R 0 (w.alloc (.cells (List.replicate n (.bool false)).toArray 4))) := Lib.hid
    ⟨List.replicate n false, by rw [bools_rep]; exact MM.Row.new w 4 (List.replicate n (.bool false)), (MM.Far.refl [] w).alloc _, by rw [List.length_replicate, HN.out], by rw [List.drop_zero, ← HR.out, HN.out]⟩
  have HNb : Hid (NiRow (w.alloc (.cells (List.replicate n (.bool false)).toArray 4)) [w.heap.size] A ns) := Lib.hid (HNi.out.new ((MM.Far.refl [] w).alloc _) _ (Nat.le_refl _))
  obtain ⟨tb, htb⟩ : ∃ tb, w.heap.size = tb := ⟨_, rfl⟩
  rw [htb] at HI0 HNb
  rw [htb]
  have HTB := Lib.hid htb
  clear htb
  have HF0 : Hid (MM.Far [tb] (w.alloc (.cells (List.replicate n (.bool false)).toArray 4)) (w.alloc (.cells (List.replicate n (.bool false)).toArray 4))) := Lib.hid (MM.Far.refl _ _)
  go_loopw [11] (fun s11 wr => ∃ k : Nat, k ≤ n ∧ s11 = .int .i64 k ∧ Hid (MayI w tb ns R k wr) ∧ Hid (MM.Far [tb] (w.alloc (.cells (List.replicate n (.bool false)).toArray 4)) wr)) (fun s11 _ => n - (intOf s11).toNat)
  case atStart => exact ⟨0, by omega, rfl, HI0, HF0⟩
  case round =>
    obtain ⟨k, hk, rfl, hI, hF⟩ := hrel
    obtain ⟨tk, hB, hFw, hlen, hG⟩ := hI.out
    clear hI HI0 HF0
    by_cases hlt : k < n
    · have hk2 : k < ns.length := by rw [HN.out]; exact hlt
      obtain ⟨b, o, LA, lc, rfl, hbS, hb, c0, c1, c2, c3, c4, hL⟩ := (HNb.out.far hF.out) k hk2
      rw [List.drop_eq_getElem_cons hk2] at hG
      have hml := HL.out _ (List.getElem_mem hk2)
      generalize ns[k] = x at *
      obtain ⟨kd, at_, nn, s, l⟩ := x
      simp only at c0 c1 c2 c3 c4 hL hml
      unfold mayG at hG
      simp only at hG
      obtain ⟨m, hm⟩ : ∃ m, l.length = m := ⟨_, rfl⟩
      rw [hm] at c4 hml hG
      have HM := Lib.hid hm
      obtain ⟨ok, hok⟩ : ∃ ok, okF kd at_ nn s m = ok := ⟨_, rfl⟩
      rw [hok] at hG
      have HC := Lib.hid (has_any kd at_ nn s LA m lc hml)
      rw [hok] at HC
      obtain ⟨bx, hbx⟩ : ∃ bx, wr.heap.size = bx := ⟨_, rfl⟩
      have HBX := Lib.hid (hbx ▸ MM.Row.new wr 34 [.int .u8 kd, .int .i64 at_, .int .i64 nn, .string s, .slice LA m lc])
      have HBXE := Lib.hid hbx
      have FA := (MM.Far.refl [] wr).alloc (.cells #[.int .u8 kd, .int .i64 at_, .int .i64 nn, .string s, .slice LA m lc] 34)
      have HTR := Lib.hid (hB.far FA (by simp))
      have HFw := Lib.hid (hFw.trans FA (by simp))
      have HFt := Lib.hid (hF.out.trans FA (by simp))
      have HIR := Lib.hid (hL.far (FA.mono (S' := [tb]) (by simp)))
      have HLEN := Lib.hid hlen
      have HG := Lib.hid hG
      have htbx : tb < bx := by rw [← hbx]; exact hB.lt
      clear hk2 hG hok hbx FA hB hFw hlen hL hF hm hbS
      cases ok with
      | false =>
        have HG2 : Hid (R = false) := Lib.hid (by have := HG.out; simpa using this.symm)
        have := HG2.out.symm.trans HYES.out
        cases this
      | true =>
        obtain ⟨T, hT⟩ : ∃ T, takeL k l tk = T := ⟨_, rfl⟩
        have HTK := Lib.hid hT
        have hG2 := HG.out
        rw [if_neg (by simp), hT] at hG2
        have HG2 := Lib.hid hG2
        clear HG hT hG2
        go_wp2
        rw [HBXE.out]
        obtain ⟨y0, y1, y2, y3, y4⟩ := row_five HBX.out
        cases T with
        | none =>
          have := (show false = R from HG2.out).trans HYES.out
          cases this
        | some tk2 =>
          have HG3 : Hid (mayG (ns.drop (k + 1)) (k + 1) tk2 = R) := Lib.hid HG2.out
          go_region_held3 (fun w' => w'.cell? ⟨bx, 0, none⟩ = some (.int .u8 kd) ∧ w'.cell? ⟨bx, 1, none⟩ = some (.int .i64 at_) ∧ w'.cell? ⟨bx, 2, none⟩ = some (.int .i64 nn) ∧ w'.cell? ⟨bx, 3, none⟩ = some (.string s) ∧ w'.cell? ⟨bx, 4, none⟩ = some (.slice LA m lc)) (go_keep) (first
            | (go_at_call 23
               (with_reducible refine (HC.out _).mono ?_)
               rintro e w5 ⟨rfl, hF5⟩
               have hS5 : w5.cell? ⟨bx, 0, none⟩ = some (.int .u8 kd) ∧ w5.cell? ⟨bx, 1, none⟩ = some (.int .i64 at_) ∧ w5.cell? ⟨bx, 2, none⟩ = some (.int .i64 nn) ∧ w5.cell? ⟨bx, 3, none⟩ = some (.string s) ∧ w5.cell? ⟨bx, 4, none⟩ = some (.slice LA m lc) := far_five hF5 (by assumption)
               obtain ⟨y0, y1, y2, y3, y4⟩ := hS5
               have HFw5 := Lib.hid (far_dt HFw.out hF5 (by first | exact .inl rfl | exact .inr rfl))
               have HFt5 := Lib.hid (far_dt HFt.out hF5 (by first | exact .inl rfl | exact .inr rfl))
               have HTR5 := Lib.hid (row_dt HTR.out hF5 (by first | exact .inl rfl | exact .inr rfl))
               have HIR5 := Lib.hid (HIR.out.far (far_dt (MM.Far.refl [tb] _) hF5 (by first | exact .inl rfl | exact .inr rfl)))
               clear hF5)
            | (go_at_call 24
               (refine (take_all tb k n tk (by have := HLEN.out; have := HN.out; omega) (by omega) (by omega) l m HM.out hml LA lc _ (row_drew HTR5.out (by first | exact .inl rfl | exact .inr rfl)) (irow_drew HIR5.out (by first | exact .inl rfl | exact .inr rfl))).mono ?_)
               rintro e w6 ⟨hF6, h6⟩
               rw [HTK.out] at h6
               obtain ⟨rfl, hR6⟩ := h6
               have HR6 := Lib.hid hR6
               clear hR6
               have hS6 : w6.cell? ⟨bx, 0, none⟩ = some (.int .u8 kd) ∧ w6.cell? ⟨bx, 1, none⟩ = some (.int .i64 at_) ∧ w6.cell? ⟨bx, 2, none⟩ = some (.int .i64 nn) ∧ w6.cell? ⟨bx, 3, none⟩ = some (.string s) ∧ w6.cell? ⟨bx, 4, none⟩ = some (.slice LA m lc) := far_five_at hF6 (by simp only [List.mem_singleton]; omega) (by assumption)
               obtain ⟨y0, y1, y2, y3, y4⟩ := hS6
               have HFw6 := Lib.hid (far_dtS HFw5.out hF6 (by first | exact .inl rfl | exact .inr rfl) (fun h => by have := HTB.out; omega))
               have HFt6 := Lib.hid (far_dtS HFt5.out hF6 (by first | exact .inl rfl | exact .inr rfl) (fun _ => by simp))
               clear hF6))
          go_wp2
          go_roundw
          case rel => exact ⟨k + 1, by omega, by go_num, Lib.hid ⟨tk2, HR6.out, HFw6.out, by rw [takeL_len _ _ _ _ HTK.out]; exact HLEN.out, HG3.out⟩, HFt6⟩
          case measure => simp [intOf]; omega
    · obtain rfl : k = n := by omega
      rw [List.drop_of_length_le (by rw [HN.out]; exact Nat.le_refl _)] at hG
      have HG2 : Hid (true = R) := Lib.hid hG
      have HFw := Lib.hid hFw
      clear hG hB hFw hlen hF
      go_wp2
      go_ret
      exact ⟨rfl, HFw.out⟩
end RW6
end Go.Proofs.YtkhcaejijlaohaaDoor
