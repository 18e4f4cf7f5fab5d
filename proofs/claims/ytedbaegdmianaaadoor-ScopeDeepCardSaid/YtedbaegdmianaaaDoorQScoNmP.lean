/-
  Several texts in one: ScoS1, ScoS2, ScoBad, ScoTx, ScoPr, ScoNmP.
-/
import Derived.Test.YtedbaegdmianaaaDoorQScoDx
import Derived.Test.YtedbaegdmianaaaDoorQScoGd
import Derived.Deep.RegionHeld3
namespace Go.Proofs.YtedbaegdmianaaaDoor
open Go.RowKit
set_option linter.unusedVariables false
namespace SM
open LX RW6 EX SC
open EW (Sl Bx ptr num strs)
def tkU (n : Nat) (u : List Nat) : List Bool := (List.range n).map fun a => decide (a ∈ u)
theorem tkU_len (n : Nat) (u : List Nat) : (tkU n u).length = n := by simp [tkU]
theorem tkU_at (n : Nat) (u : List Nat) {i : Nat} (h : i < n) : (tkU n u)[i]? = some (decide (i ∈ u)) := by simp [tkU, h]
theorem tkU_set (n : Nat) (u : List Nat) {i : Nat} (h : i < n) : (tkU n u).set i true = tkU n (u ++ [i]) := by
  apply List.ext_getElem?
  intro j
  by_cases hj : j < n
  · rw [tkU_at n _ hj, List.getElem?_set]
    by_cases e : i = j
    · subst e
      rw [if_pos rfl, if_pos (by rw [tkU_len]; exact h)]
      simp
    · rw [if_neg e, tkU_at n u hj]
      have : (decide (j ∈ u ++ [i])) = decide (j ∈ u) := by
        apply decide_eq_decide.2
        simp only [List.mem_append, List.mem_singleton]
        exact ⟨fun h => h.elim id (fun h => absurd h.symm e), .inl⟩
      rw [this]
  · rw [List.getElem?_eq_none (by simp [tkU_len]; omega), List.getElem?_eq_none (by simp [tkU_len]; omega)]
theorem tkU_nil (n : Nat) : bools (tkU n []) = List.replicate n (.bool false) := by
  apply List.ext_getElem?
  intro j
  by_cases hj : j < n
  · simp [bools, tkU, hj]
  · simp [bools, tkU, hj]
def lst (k : Int) : Int := if k = 5 then 3 else if k = 6 ∨ k = 7 ∨ k = 9 ∨ k = 10 then 1 else 0
theorem fewest_any (k : Int) (hk : k = 1 ∨ k = 2 ∨ k = 3 ∨ k = 4 ∨ k = 5 ∨ k = 6 ∨ k = 7 ∨ k = 8 ∨ k = 9 ∨ k = 10) (w : World) : Calls Tryd.prog 40 #[.int .u8 k] w fun e w' => e = .returned (.tuple #[.int .i64 (lst k), .bool true]) ∧ w = w' := by
  rcases hk with rfl | rfl | rfl | rfl | rfl | rfl | rfl | rfl | rfl | rfl
  all_goals
    go_enter Tryd.func40, Tryd.ntmps40
    go_wp2
    go_ret2
    exact ⟨rfl, rfl⟩
def RdC (w : World) (Z : List Nat) (A : Option Addr) (vs : List Value) : Prop := ∀ k u, vs[k]? = some u → ∃ g o, A = some ⟨g, o, none⟩ ∧ g ∉ Z ∧ g < w.heap.size ∧ w.cell? ⟨g, o + k, none⟩ = some u
theorem RdC.far {w w' : World} {Z S : List Nat} {A : Option Addr} {vs : List Value} (h : RdC w Z A vs) (f : MM.Far S w w') (hS : ∀ b ∈ S, b < w.heap.size → b ∈ Z) : RdC w' Z A vs := fun k u hu => by
  obtain ⟨g, o, e, hz, hg, c⟩ := h k u hu
  exact ⟨g, o, e, hz, Nat.lt_of_lt_of_le hg f.size, (f.cell (p := ⟨g, o + k, none⟩) hg (fun hm => hz (hS g hm hg))).trans c⟩
theorem RdC.more {w : World} {Z Z' : List Nat} {A : Option Addr} {vs : List Value} (h : RdC w Z A vs) (hZ : ∀ b ∈ Z', b ∈ Z ∨ w.heap.size ≤ b) : RdC w Z' A vs := fun k u hu => by
  obtain ⟨g, o, e, hz, hg, c⟩ := h k u hu
  exact ⟨g, o, e, fun hm => (hZ g hm).elim hz (fun h => by omega), hg, c⟩
theorem rd_sl {w : World} {Z : List Nat} {A : Option Addr} {n c : Nat} {vs : List Value} (h : Sl w Z (.slice A n c) vs) : RdC w Z A vs := by
  obtain ⟨A', c', e, _, _, h3⟩ := h
  injection e with e1 _ _
  subst e1
  exact h3
theorem rd_int {w : World} {A : Option Addr} {l : List Nat} (h : IntRow w A l) : RdC w [] A (ints l) := fun k u hu => by
  have hk : k < l.length := by
    have := (List.getElem?_eq_some_iff.1 hu).1
    rwa [EW.ints_len] at this
  obtain ⟨b, o, e, hb, c⟩ := h k hk
  have e2 : (ints l)[k]? = some (.int .i64 ((l[k] : Nat) : Int)) := by simp [ints, List.getElem?_eq_getElem hk]
  rw [e2] at hu
  injection hu with hu
  subst hu
  exact ⟨b, o, e, by simp, hb, c⟩
set_option maxHeartbeats 1000000 in
theorem take_any {w : World} {g n m c : Nat} {u l : List Nat} {A : Option Addr} {k lc : Nat} (hr : MM.Row w g 4 (bools (tkU n u))) (hm : m ≤ n) (hmc : m ≤ c) (hn : n ≤ 1000000) (hl : RdC w [g] A (ints l)) (hk : l.length = k) (hlm : ∀ x ∈ l, x < m) (hnd : (u ++ l).Nodup) (hll : l.length ≤ 1000000) :
    Calls Tryd.prog 41 #[.slice (some ⟨g, 0, none⟩) m c, .slice A k lc] w fun e w' => e = .returned (.bool true) ∧ MM.Row w' g 4 (bools (tkU n (u ++ l))) ∧ MM.Far [g] w w' := by
  have HL := Lib.hid hl
  have HLM := Lib.hid hlm
  have HND := Lib.hid hnd
  have HK := Lib.hid hk
  have H0 : Hid (MM.Row w g 4 (bools (tkU n (u ++ l.take 0))) ∧ MM.Far [g] w w) := Lib.hid ⟨by rw [List.take_zero, List.append_nil]; exact hr, MM.Far.refl _ _⟩
  rw [hk] at hll
  clear hl hlm hnd hk hr
  go_enter Tryd.func41, Tryd.ntmps41
  go_wp2
  go_loopw [9] (fun s9 wr => ∃ j : Nat, j ≤ k ∧ s9 = .int .i64 (j : Int) ∧ Hid (MM.Row wr g 4 (bools (tkU n (u ++ l.take j))) ∧ MM.Far [g] w wr)) (fun s9 _ => k - (intOf s9).toNat)
  case atStart => exact ⟨0, by omega, rfl, H0⟩
  case round =>
    clear H0
    obtain ⟨j, hj, rfl, hH⟩ := hrel
    by_cases hlt : j < k
    · have hjl : j < l.length := by rw [HK.out]; exact hlt
      obtain ⟨g2, o, rfl, hz, hg, cc⟩ := (HL.out.far hH.out.2 (fun b hb _ => hb)) j (.int .i64 (l[j] : Nat)) (by simp [ints, List.getElem?_eq_getElem hjl])
      obtain ⟨x, hx⟩ : ∃ x, l[j] = x := ⟨_, rfl⟩
      have hxm : x < m := by rw [← hx]; exact HLM.out _ (List.getElem_mem hjl)
      have hxn : x < n := by omega
      have hxu : x ∉ u ++ l.take j := by
        have hnd := HND.out
        have e4 : u ++ l = (u ++ l.take j) ++ (l[j] :: l.drop (j + 1)) := by
          rw [List.append_assoc, ← List.drop_eq_getElem_cons hjl, List.take_append_drop]
        rw [e4] at hnd
        have := (List.nodup_append.1 hnd).2.2
        intro hm2
        exact this x hm2 x (by rw [hx]; exact List.mem_cons_self ..) rfl
      rw [hx] at cc
      have hcell := hH.out.1.at (i := x) (v := .bool false) (by
        unfold bools
        rw [List.getElem?_map, tkU_at n _ hxn]
        simp [hxu])
      have hfz := hH.out.1.frozen x
      have HSt : Hid (MM.Row (wr.setCell ⟨g, x, none⟩ (.bool true)) g 4 (bools (tkU n (u ++ l.take (j + 1))))) := Lib.hid (by
        have := hH.out.1.put x (.bool true)
        rw [List.take_succ_eq_append_getElem hjl, hx, ← List.append_assoc, ← tkU_set n _ hxn]
        unfold bools at this ⊢
        rw [List.map_set]; exact this)
      have HFt : Hid (MM.Far [g] w (wr.setCell ⟨g, x, none⟩ (.bool true))) := Lib.hid (hH.out.2.setCell (by simp) _)
      clear hH hxu hx hz hg
      go_wp2
      go_roundw
      case rel => exact ⟨j + 1, by omega, by go_num, Lib.hid ⟨HSt.out, HFt.out⟩⟩
      case measure => simp [intOf]; omega
    · obtain rfl : j = k := by omega
      go_wp2
      go_ret
      have h1 := hH.out.1
      rw [List.take_of_length_le (by rw [HK.out]; exact Nat.le_refl _)] at h1
      exact ⟨rfl, h1, hH.out.2⟩
theorem take_w {W w : World} {g n m c : Nat} {u l : List Nat} {A : Option Addr} {k lc : Nat} (hr : MM.Row W g 4 (bools (tkU n u))) (f : MM.Far [] W w) (hm : m ≤ n) (hmc : m ≤ c) (hn : n ≤ 1000000) (hl : RdC W [g] A (ints l)) (hk : l.length = k) (hlm : ∀ x ∈ l, x < m) (hnd : (u ++ l).Nodup) (hll : l.length ≤ 1000000) :
    Calls Tryd.prog 41 #[.slice (some ⟨g, 0, none⟩) m c, .slice A k lc] w fun e w' => e = .returned (.bool true) ∧ MM.Row w' g 4 (bools (tkU n (u ++ l))) ∧ MM.Far [g] W w' :=
  (take_any (hr.far f (by simp)) hm hmc hn (hl.far f (by simp)) hk hlm hnd hll).mono fun _ _ ⟨h1, h2, h3⟩ => ⟨h1, h2, (f.mono (by simp)).trans h3 (fun _ h _ => h)⟩
end SM
end Go.Proofs.YtedbaegdmianaaaDoor
namespace Go.Proofs.YtedbaegdmianaaaDoor
open Go.RowKit
set_option linter.unusedVariables false
namespace SM
open LX RW6 EX SC
open EW (Sl Bx ptr num strs)
structure Fms (fs : List Fm) (ts : List Nat) (D : Nat) : Prop where
  good : ∀ (k : Nat) (h : k < fs.length), GoodK fs[k].kind fs[k].l.length
  lt : ∀ (k : Nat) (h : k < fs.length), ∀ p ∈ fs[k].l, p < k
  quo : ∀ (k : Nat) (h : k < fs.length), fs[k].kind = 3 → 0 ≤ fs[k].n ∧ fs[k].n < (D : Int)
  nd : (fs.flatMap (·.l) ++ ts).Nodup
  tlt : ∀ t ∈ ts, t < fs.length
theorem goodK_kind {k : Int} {n : Nat} (h : GoodK k n) : (k = 1 ∨ k = 2 ∨ k = 3 ∨ k = 4 ∨ k = 5 ∨ k = 6 ∨ k = 7 ∨ k = 8 ∨ k = 9 ∨ k = 10) ∧ lst k ≤ n ∧ 0 ≤ lst k := by
  unfold GoodK at h
  unfold lst
  split
  · omega
  · split <;> omega
theorem flat_take (fs : List Fm) (k : Nat) (h : k < fs.length) : (fs.take (k + 1)).flatMap (·.l) = (fs.take k).flatMap (·.l) ++ fs[k].l := by
  rw [List.take_succ_eq_append_getElem h, List.flatMap_append]
  simp
theorem nd_front {fs : List Fm} {ts : List Nat} (h : (fs.flatMap (·.l) ++ ts).Nodup) (k : Nat) (hk : k < fs.length) : ((fs.take k).flatMap (·.l) ++ fs[k].l).Nodup := by
  rw [← flat_take fs k hk]
  have h1 := (List.nodup_append.1 h).1
  have e : fs.flatMap (·.l) = (fs.take (k + 1)).flatMap (·.l) ++ (fs.drop (k + 1)).flatMap (·.l) := by rw [← List.flatMap_append, List.take_append_drop]
  rw [e] at h1
  exact (List.nodup_append.1 h1).1
theorem bool_row (n : Nat) : (madeCells #[.bool false] n) = (bools (tkU n [])).toArray := by
  rw [tkU_nil]
  apply Array.ext
  · simp [size_madeCells]
  · intro i h1 h2
    simp [madeCells, Nat.mod_one]
set_option maxHeartbeats 4000000 in
set_option maxRecDepth 20000 in
theorem areForms_any {w : World} {A T : Option Addr} {n c tn tc D : Nat} {fs : List Fm} {ts : List Nat} (hF : FmS w A fs) (hn : fs.length = n) (hn2 : n ≤ 100000) (G : Fms fs ts D) (hl : ∀ f ∈ fs, f.l.length ≤ 100000) (hT : RdC w [] T (ints ts)) (htn : ts.length = tn) (htl : ts.length ≤ 100000) (hD : D ≤ 1000000) :
    Calls Tryd.prog 23 #[.slice A n c, .slice T tn tc, num D] w fun e w' => e = .returned (.bool true) ∧ MM.Far [] w w' := by
  have HF := Lib.hid hF
  have HN := Lib.hid hn
  have HG := Lib.hid G
  have HL := Lib.hid hl
  have HT := Lib.hid hT
  have HTN := Lib.hid htn
  have HTL := Lib.hid htl
  clear hF hn G hl hT htl htn
  have hmk := run_make_row' (P := Tryd.prog) 96 4 (.bool false) 1 bools_slice bool_info rfl .i64 .i64 n (by omega) (by omega)
  rw [bool_row] at hmk
  unfold num
  go_enter Tryd.func23, Tryd.ntmps23
  go_wp2
  have hr0 := MM.Row.new w 4 (bools (tkU n []))
  obtain ⟨g, hg⟩ : ∃ g, w.heap.size = g := ⟨_, rfl⟩
  have HG0 := Lib.hid hg
  have H0 : Hid (MM.Row (w.alloc (.cells (bools (tkU n [])).toArray 4)) g 4 (bools (tkU n ((fs.take 0).flatMap (·.l)))) ∧ MM.Far [] w (w.alloc (.cells (bools (tkU n [])).toArray 4))) := Lib.hid ⟨hg ▸ hr0, (MM.Far.refl [] w).alloc _⟩
  rw [hg]
  clear hr0 hmk hg
  go_loopw [17] (fun s17 wr => ∃ k : Nat, k ≤ n ∧ s17 = .int .i64 (k : Int) ∧ Hid (MM.Row wr g 4 (bools (tkU n ((fs.take k).flatMap (·.l)))) ∧ MM.Far [] w wr)) (fun s17 _ => n - (intOf s17).toNat)
  case atStart => exact ⟨0, by omega, rfl, H0⟩
  case round =>
    clear H0
    obtain ⟨k, hk, rfl, hH⟩ := hrel
    by_cases hlt : k < n
    · have hkl : k < fs.length := by rw [HN.out]; exact hlt
      obtain ⟨b, o, PA, pc, LA, lc, rfl, hb, d0, d1, d2, d3, d4, d5, d6, d7, hP, hI⟩ := HF.out k hkl
      have gc (x : Nat) : wr.cell? ⟨b, x, none⟩ = w.cell? ⟨b, x, none⟩ := hH.out.2.cell (p := ⟨b, x, none⟩) hb (by simp)
      have c0 := (gc _).trans d0
      have c1 := (gc _).trans d1
      have c2 := (gc _).trans d2
      have c3 := (gc _).trans d3
      have c4 := (gc _).trans d4
      have c5 := (gc _).trans d5
      have c6 := (gc _).trans d6
      have c7 := (gc _).trans d7
      have HSL := Lib.hid ((hI.more (Z' := [g]) (fun b hb => .inr (by have := HG0.out; rw [List.mem_singleton.1 hb]; omega))).far hH.out.2 (by simp))
      clear d0 d1 d2 d3 d4 d5 d6 d7 gc hb hP hI
      obtain ⟨hgk, hl1, hl2⟩ := goodK_kind (HG.out.good k hkl)
      have hquo := HG.out.quo k hkl
      have HFW := Lib.hid (fun W => fewest_any fs[k].kind hgk W)
      have hnd := nd_front HG.out.nd k hkl
      have hllk : fs[k].l.length ≤ 100000 := HL.out _ (List.getElem_mem hkl)
      have hltk := HG.out.lt k hkl
      have hkk := Lib.hid (flat_take fs k hkl)
      have HFin := Lib.hid (And.intro hnd (And.intro hltk hllk))
      clear hnd hltk hgk
      generalize fs[k] = f at *
      obtain ⟨fk, fa, fn, fS, fp, fl⟩ := f
      simp only at c0 c1 c2 c3 c4 c5 c6 c7 hl1 hl2 hllk hquo HFW HSL HFin hkk
      generalize lst fk = le at *
      obtain ⟨m, hm⟩ : ∃ m, fl.length = m := ⟨_, rfl⟩
      rw [hm] at c7 hl1 hllk HSL
      have HM := Lib.hid hm
      have HU := Lib.hid (show k ≤ n by omega)
      obtain ⟨bx, hbx⟩ : ∃ bx, wr.heap.size = bx := ⟨_, rfl⟩
      have HBX := Lib.hid (hbx ▸ MM.Row.new wr 33 [.int .u8 fk, .int .i64 fa, .int .i64 fn, .int .i64 0, .string fS, .slice PA fp.length pc, .int .u64 0, .slice LA m lc])
      have hgx : bx ≠ g := by have := hH.out.1.lt; omega
      have HGX := Lib.hid hgx
      have HH2 : Hid (MM.Row (wr.alloc (.cells #[.int .u8 fk, .int .i64 fa, .int .i64 fn, .int .i64 0, .string fS, .slice PA fp.length pc, .int .u64 0, .slice LA m lc] 33)) g 4 (bools (tkU n ((fs.take k).flatMap (·.l)))) ∧ MM.Far [] w (wr.alloc (.cells #[.int .u8 fk, .int .i64 fa, .int .i64 fn, .int .i64 0, .string fS, .slice PA fp.length pc, .int .u64 0, .slice LA m lc] 33))) := Lib.hid ⟨hH.out.1.alloc _, hH.out.2.alloc _⟩
      have HSL2 := Lib.hid (HSL.out.far ((MM.Far.refl [] wr).alloc (.cells #[.int .u8 fk, .int .i64 fa, .int .i64 fn, .int .i64 0, .string fS, .slice PA fp.length pc, .int .u64 0, .slice LA m lc] 33)) (by simp))
      clear hH hgx hm HSL
      go_upto_region 5 with (fail)
      rw [show wr.alloc (.cells [Value.int .u8 fk, .int .i64 fa, .int .i64 fn, .int .i64 0, .string fS, .slice PA fp.length pc, .int .u64 0, .slice LA m lc].toArray 33) = wr.alloc (.cells #[.int .u8 fk, .int .i64 fa, .int .i64 fn, .int .i64 0, .string fS, .slice PA fp.length pc, .int .u64 0, .slice LA m lc] 33) from rfl] at HBX
      generalize wr.alloc (.cells #[.int .u8 fk, .int .i64 fa, .int .i64 fn, .int .i64 0, .string fS, .slice PA fp.length pc, .int .u64 0, .slice LA m lc] 33) = W at *
      clear c0 c1 c2 c3 c4 c5 c6 c7 hbx
      have z0 := HBX.out.at (i := 0) rfl
      have z2 := HBX.out.at (i := 2) rfl
      have z7 := HBX.out.at (i := 7) rfl
      have hle : ¬ (m : Int) < le := by omega
      have hleb : decide ((m : Int) < le) = false := by rw [decide_eq_false_iff_not]; exact hle
      have hkm : (k : Int) ≤ (n : Int) := by omega
      have HTK := Lib.hid (fun (wx : World) (f : MM.Far [] W wx) => take_w (A := LA) (k := m) (lc := lc) (m := k) (c := n) HH2.out.1 f HU.out HU.out (by omega) (rd_sl HSL2.out) HM.out HFin.out.2.1 HFin.out.1 (by have := HFin.out.2.2; omega))
      go_wp2_with (first | (go_at_call 40; refine (HFW.out _).mono ?_; rintro e w' ⟨rfl, rfl⟩))
      go_upto_region 6 with (fail)
      go_region_held3 (fun w' => w'.cell? ⟨bx, 7, none⟩ = some (.slice LA m lc)) (go_keep) (first
        | (go_at_call 41
           (with_reducible refine (HTK.out _ (by first | exact MM.Far.refl [] _ | exact (MM.Far.refl [] _).drew)).mono ?_)
           rintro e w5 ⟨rfl, hR5, hF5⟩
           have hx5 := HBX.out.far hF5 (by simp [HGX.out])
           have y7 := hx5.at (i := 7) rfl
           have HR5 := Lib.hid hR5
           have HF5 := Lib.hid hF5
           have HX5 := Lib.hid hx5
           clear hR5 hF5 hx5))
      have y0 := HX5.out.at (i := 0) rfl
      have y2 := HX5.out.at (i := 2) rfl
      have HE : Hid (MM.Row w5 g 4 (bools (tkU n ((fs.take (k + 1)).flatMap (·.l)))) ∧ MM.Far [] w w5) := Lib.hid ⟨by rw [hkk.out]; exact HR5.out, HH2.out.2.trans HF5.out (fun b hb hl => by have := HG0.out; rw [List.mem_singleton.1 hb] at hl; omega)⟩
      clear z0 z2 z7
      by_cases h3 : fk = 3
      · obtain ⟨q1, q2⟩ := hquo h3
        subst h3
        have q3 : decide (fn < 0) = false := by rw [decide_eq_false_iff_not]; omega
        have q4 : decide ((D : Int) ≤ fn) = false := by rw [decide_eq_false_iff_not]; omega
        go_wp2
        go_roundw
        case rel => exact ⟨k + 1, by omega, by go_num, Lib.hid ⟨by first | exact HE.out.1 | exact HE.out.1.drew | exact HE.out.1.drewN _, by first | exact HE.out.2 | exact HE.out.2.drew | exact HE.out.2.drewN _⟩⟩
        case measure => simp [intOf]; omega
      · have q3 : (fk == 3) = false := by simpa using h3
        go_wp2
        go_roundw
        case rel => exact ⟨k + 1, by omega, by go_num, Lib.hid ⟨by first | exact HE.out.1 | exact HE.out.1.drew | exact HE.out.1.drewN _, by first | exact HE.out.2 | exact HE.out.2.drew | exact HE.out.2.drewN _⟩⟩
        case measure => simp [intOf]; omega
    · obtain rfl : k = n := by omega
      have hr := hH.out.1
      rw [List.take_of_length_le (by rw [HN.out]; exact Nat.le_refl _)] at hr
      have HSL := Lib.hid ((HT.out.more (Z' := [g]) (fun b hb => .inr (by have := HG0.out; rw [List.mem_singleton.1 hb]; omega))).far hH.out.2 (by simp))
      have HTK := Lib.hid (take_any (A := T) (k := tn) (lc := tc) (m := k) (c := k) hr (Nat.le_refl _) (Nat.le_refl _) (by omega) HSL.out HTN.out (fun x hx => by have := HG.out.tlt x hx; have := HN.out; omega) HG.out.nd (by have := HTL.out; omega))
      have HFF := Lib.hid hH.out.2
      clear hH hr
      go_wp2_with (go_at_call 41; (with_reducible refine HTK.out.mono ?_); rintro e w5 ⟨rfl, hR5, hF5⟩; have HF5 := Lib.hid hF5; clear hR5 hF5)
      go_ret
      exact ⟨rfl, HFF.out.trans HF5.out (fun b hb hl => by have := HG0.out; rw [List.mem_singleton.1 hb] at hl; omega)⟩
end SM
end Go.Proofs.YtedbaegdmianaaaDoor
namespace Go.Proofs.YtedbaegdmianaaaDoor
namespace SC
open LX RX SX EX
theorem ev_bad {C : Cx} {R : Rws} {N : List ByteArray} {p : Sp} {a e : Int} (h : (evS C R N p).1 = .bad a e) : (e = 90 ∨ e = 91) ∧ ∃ i, p = .form i ∧ a = (fmAt C.fs i).at_ ∧ (fmAt C.fs i).kind ≠ 0 := by
  have hql : ∀ {R : Rws} {a' : Int} {l : List Nat}, quoL R a' l ≠ .bad a e := by
    intro R a' l
    cases l <;> simp [quoL]
  have hq : ∀ {a' : Int} {i : Nat}, (quo C.ns R N a' i).1 ≠ .bad a e := by
    intro a' i
    unfold quo
    split
    · simp
    split
    · simp
    split
    · simp
    · exact hql
  have hno : ∀ s, noName s = 90 ∨ noName s = 91 := by
    intro s; unfold noName; split <;> simp
  cases p with
  | qd a' i => exact absurd h hq
  | ql a' l => exact absurd h hql
  | form i =>
    simp only [evS] at h
    obtain ⟨f, hf⟩ : ∃ f, fmAt C.fs i = f := ⟨_, rfl⟩
    rw [hf] at h
    have goal : (e = 90 ∨ e = 91) ∧ a = f.at_ ∧ f.kind ≠ 0 := by
      unfold evF at h
      split at h
      · cases h
      split at h
      · cases h
      split at h
      · exact absurd h hq
      split at h
      · rename_i h4
        unfold nameP at h
        split at h
        · cases h
        · split at h
          · cases h
          · injection h with h1 h2
            exact ⟨by rw [← h2]; exact hno _, h1.symm, by omega⟩
      split at h
      · cases h
      split at h
      · rename_i h7
        unfold setP' at h
        split at h
        · cases h
        · split at h
          · cases h
          · injection h with h1 h2
            exact ⟨by rw [← h2]; exact hno _, h1.symm, by omega⟩
      split at h
      · rename_i h9
        unfold defP at h
        split at h
        · injection h with h1 h2
          exact ⟨.inl h2.symm, h1.symm, by omega⟩
        · cases h
      split at h
      · rename_i h10
        simp only [callP] at h
        split at h
        · split at h
          · injection h with h1 h2
            exact ⟨.inl h2.symm, h1.symm, by omega⟩
          · cases h
        · cases h
      · cases h
    exact ⟨goal.1, i, rfl, by rw [hf]; exact goal.2.1, by rw [hf]; exact goal.2.2⟩
def AtF (C : Cx) (a : Int) : Prop := ∃ i, a = (fmAt C.fs i).at_ ∧ (fmAt C.fs i).kind ≠ 0
theorem ex_bad {C : Cx} (h : Fw C) : ∀ (f : Nat) (p : Sp), wgt C p ≤ f → ∀ R N row x, ex C f R p N row = .error x → (x.2.1 = 90 ∨ x.2.1 = 91) ∧ AtF C x.1 := by
  intro f
  induction f with
  | zero => intro p hp; have := wgt_pos C p; omega
  | succ f ih =>
    intro p hp R N row x hx
    have hw := ev_wg h R N p
    have hb := @ev_bad C R N p
    rw [ex] at hx
    generalize evS C R N p = y at hw hb hx
    obtain ⟨pl, N1⟩ := y
    cases pl with
    | bad a e =>
      simp only [onS] at hx
      injection hx with hx
      subst hx
      obtain ⟨h1, i, _, h2, h3⟩ := hb rfl
      exact ⟨h1, i, h2, h3⟩
    | mk fm R1 ps =>
      simp only [wgn] at hw
      simp only [onS] at hx
      have hps : ∀ (ps : List Sp), wgts C ps ≤ f → ∀ N row l x, execs (ex C f R1) ps N row l = .error x → (x.2.1 = 90 ∨ x.2.1 = 91) ∧ AtF C x.1 := by
        intro ps
        induction ps with
        | nil => intro _ N row l x hx; cases hx
        | cons q ps ihp =>
          intro h1 N row l x hx
          rw [wgts_cons] at h1
          unfold execs at hx
          split at hx
          · rename_i e he
            injection hx with hx
            subst hx
            exact ih q (by omega) _ _ _ _ he
          · exact ihp (by omega) _ _ _ _ hx
      split at hx
      · rename_i e he
        injection hx with hx
        subst hx
        exact hps ps (by omega) _ _ _ _ he
      · cases hx
theorem sx_bad {C : Cx} (h : Fw C) {p : Sp} {R : Rws} {N : List ByteArray} {row : List Rf} {x : Er} (hx : sx C R p N row = .error x) : (x.2.1 = 90 ∨ x.2.1 = 91) ∧ AtF C x.1 := ex_bad h _ p (Nat.le_refl _) _ _ _ _ hx
end SC
end Go.Proofs.YtedbaegdmianaaaDoor
namespace Go.Proofs.YtedbaegdmianaaaDoor
namespace SC
open LX RX SX EX
theorem fms_of {s : ByteArray} {r : Rd} {fs : List Fm} {ts : List Nat} (hR : read s = .ok r) (h : expand r.row r.tops = .ok (fs, ts)) : SM.Fms fs ts r.row.length := by
  have hF := forms_of hR h
  refine ⟨fun k hk => (hF.made k hk).1.kind, fun k hk p hp => by have := ((hF.made k hk).2 p hp).1; simpa using this, fun k hk h3 => hF.quo _ (List.getElem_mem hk) h3, ?_, fun t ht => ?_⟩
  · have hperm : (fs.flatMap (·.l) ++ ts).Perm (List.range fs.length) := by
      rw [List.perm_iff_count]
      intro a
      have h1 := hF.one a
      rw [List.count_append]
      unfold EX.cnt at h1
      rw [h1, List.nodup_range.count]
      simp
    exact hperm.nodup_iff.2 List.nodup_range
  · have h1 := hF.one t
    have h2 := List.count_pos_iff.2 ht
    by_cases hl : t < fs.length
    · exact hl
    · rw [if_neg hl] at h1; omega
theorem nodup_le3 : ∀ (n : Nat) (l : List Nat), l.Nodup → (∀ a ∈ l, a < n) → l.length ≤ n := by
  intro n
  induction n with
  | zero => intro l _ h; cases l with
    | nil => exact Nat.le_refl _
    | cons a l => have := h a (List.mem_cons_self ..); omega
  | succ n ih =>
    intro l hn h
    have h1 := ih (l.erase n) (hn.erase n) (fun a ha => by
      have h2 := (hn.mem_erase_iff).1 ha
      have := h a h2.2
      have := h2.1
      omega)
    by_cases hm : n ∈ l
    · rw [List.length_erase_of_mem hm] at h1; omega
    · rw [List.erase_of_not_mem hm] at h1; omega
theorem fms_small {fs : List Fm} {ts : List Nat} {D : Nat} (G : SM.Fms fs ts D) : ∀ x ∈ fs, x.l.length ≤ fs.length := by
  intro x hx
  obtain ⟨k, hk, rfl⟩ := List.getElem_of_mem hx
  have h1 := (List.nodup_append.1 (SM.nd_front G.nd k hk)).2.1
  exact Nat.le_trans (nodup_le3 k _ h1 (G.lt k hk)) (by omega)
theorem fms_nil (D : Nat) : SM.Fms [] [] D := ⟨fun k hk => absurd hk (by simp), fun k hk => absurd hk (by simp), fun k hk => absurd hk (by simp), by simp, fun t ht => by cases ht⟩
theorem fm_nil (i : Nat) : fmAt [] i = fm0 := by simp [fmAt]
theorem gd_nil {s : ByteArray} {r : Rd} (hR : read s = .ok r) (hs : s.size ≤ 1000) : Gd (cx r.row []) (r.row.map (·.s)) := by
  have hok := read_ok_data hR
  have hN := read_names hR
  have h3 : ∀ i, (ndAt r.row i).kind = 3 → PK (r.row.map (·.s)) (ndAt r.row i).s := fun i hk => by
    by_cases hi : i < r.row.length
    · rw [nd_in hi] at hk ⊢
      exact ⟨(hN _ (List.getElem_mem hi)).1 hk, List.mem_map.2 ⟨_, List.getElem_mem hi, rfl⟩⟩
    · rw [nd_out hi] at hk; exact absurd hk (by decide)
  have h1 : ∀ i, (ndAt r.row i).kind = 1 → inRP (ndAt r.row i).n := fun i hk => by
    by_cases hi : i < r.row.length
    · rw [nd_in hi] at hk ⊢
      exact (hN _ (List.getElem_mem hi)).2.1 hk
    · rw [nd_out hi] at hk; exact absurd hk (by decide)
  refine ⟨⟨hok, fun i p hp => ?_⟩, fun i hi => absurd hi (by simp [cx]), fun i hi => absurd hi (by simp [cx]), fun i hi => absurd hi (by simp [cx]), fun i hk => ?_, h1, h3, ?_, rfl⟩
  · rw [show fmAt (cx r.row []).fs i = fm0 from fm_nil i] at hp
    cases hp
  · rw [show fmAt (cx r.row []).fs i = fm0 from fm_nil i] at hk
    exact absurd hk (by decide)
  · rw [List.length_map]
    have := read_len hR
    omega
theorem gd_none : Gd (cx [] []) [] := by
  have hnd : ∀ i, ndAt [] i = ndAt [] 0 := fun i => by simp [ndAt]
  refine ⟨⟨⟨(fun x hx => absurd hx (by simp [cx])), (fun x hx => absurd hx (by simp [cx])), (fun i hi => absurd hi (by simp [cx])), (fun i hi => absurd hi (by simp [cx])), (fun i hi => absurd hi (by simp [cx]))⟩, fun i p hp => ?_⟩, fun i hi => absurd hi (by simp [cx]), fun i hi => absurd hi (by simp [cx]), fun i hi => absurd hi (by simp [cx]), fun i hk => ?_, fun i hk => ?_, fun i hk => ?_, by simp, rfl⟩
  · rw [show fmAt (cx [] []).fs i = fm0 from fm_nil i] at hp
    cases hp
  · rw [show fmAt (cx [] []).fs i = fm0 from fm_nil i] at hk
    exact absurd hk (by decide)
  · rw [show ndAt (cx [] []).ns i = ndAt [] 0 from hnd i] at hk
    exact absurd hk (by decide)
  · rw [show ndAt (cx [] []).ns i = ndAt [] 0 from hnd i] at hk
    exact absurd hk (by decide)
def ofS (s : ByteArray) : Except Er (List ByteArray × List Rf × List Nat) := match RX.read s with
  | .error _ => .ok ([], [], [])
  | .ok r => match EX.expand r.row r.tops with
    | .error _ => .ok ([], [], [])
    | .ok x => scope r.row x.1 x.2
end SC
end Go.Proofs.YtedbaegdmianaaaDoor
namespace Go.Proofs.YtedbaegdmianaaaDoor
namespace SC
open LX RX SX EX
def oneB : ByteArray := ⟨#[32, 49]⟩
def argsB : Nat → ByteArray
  | 0 => emp
  | n + 1 => argsB n ++ oneB
def opB : ByteArray := ⟨#[40]⟩
def clB : ByteArray := ⟨#[41]⟩
def lamB : ByteArray := ⟨#[40, 108, 97, 109, 98, 100, 97, 32, 40]⟩
def midB : ByteArray := ⟨#[41, 32, 40]⟩
def endB : ByteArray := ⟨#[41, 41]⟩
def callB (s : ByteArray) (n : Nat) : ByteArray := opB ++ s ++ argsB n ++ clB
def lamcB (s : ByteArray) (n : Nat) : ByteArray := lamB ++ s ++ midB ++ s ++ argsB n ++ endB
def primAt (i : Nat) : ByteArray := primN.getD i emp
def chkC (s : ByteArray) (n : Nat) : Bool := match ofS (callB s n) with
  | .error x => decide (n ≠ primK s) && decide (x.1 = 0) && decide (x.2.1 = 90)
  | .ok r => decide (n = primK s) && decide (r.2.1.length = n + 1) && decide ((r.2.1.getD n ⟨0, 0, 0, 0, emp, 0, []⟩).kind = 12) && decide ((r.2.1.getD n ⟨0, 0, 0, 0, emp, 0, []⟩).n = (primO s : Nat))
def chkL (s : ByteArray) (n : Nat) : Bool := match ofS (lamcB s n) with
  | .error _ => false
  | .ok r => decide (r.2.1.length = n + 3) && decide ((r.2.1.getD (n + 1) ⟨0, 0, 0, 0, emp, 0, []⟩).kind = 10)
def chkS (s : ByteArray) (n : Nat) : Bool := chkC s n && chkL s n && decide ((callB s n).size ≤ 100) && decide ((lamcB s n).size ≤ 100)
set_option maxRecDepth 100000 in
theorem chk_all : ∀ i, i < 30 → ∀ n, n < 5 → chkS (primAt i) n = true := by decide +kernel
end SC
end Go.Proofs.YtedbaegdmianaaaDoor
namespace Go.Proofs.YtedbaegdmianaaaDoor
namespace SC
open LX RX SX EX
def nm8 : List ByteArray := [⟨#[97]⟩, ⟨#[120, 49]⟩, ⟨#[102, 33]⟩, ⟨#[108, 97, 109, 98, 100, 97, 50]⟩, ⟨#[99, 97, 114]⟩, ⟨#[43]⟩, ⟨#[116, 105, 109, 101]⟩, ⟨#[121]⟩]
def nmAt (i : Nat) : ByteArray := nm8.getD i emp
def n1B : ByteArray := ⟨#[40, 100, 101, 102, 105, 110, 101, 32, 103, 32, 49, 41, 32, 40, 108, 97, 109, 98, 100, 97, 32, 40]⟩
def n2B : ByteArray := ⟨#[32, 122, 41, 32, 40, 115, 101, 116, 33, 32]⟩
def n3B : ByteArray := ⟨#[32, 40, 99, 111, 110, 115, 32]⟩
def n4B : ByteArray := ⟨#[32, 103, 41, 41, 32, 40, 122, 32]⟩
def n5B : ByteArray := ⟨#[41, 41]⟩
def n6B : ByteArray := ⟨#[40, 100, 101, 102, 105, 110, 101, 32]⟩
def n7B : ByteArray := ⟨#[32, 49, 41]⟩
def fnB (s : ByteArray) : ByteArray := n1B ++ s ++ n2B ++ s ++ n3B ++ s ++ n4B ++ s ++ n5B
def dfB (s : ByteArray) : ByteArray := n6B ++ s ++ n7B
def noAt (f : Rf) : Rf := ⟨f.kind, 0, f.n, f.a, f.s, f.w, f.l⟩
deriving instance DecidableEq for Rf
def base8 : List Rf × List Nat := match ofS (fnB (nmAt 0)) with
  | .error _ => ([], [])
  | .ok r => (r.2.1.map noAt, r.2.2)
def chkN (i : Nat) : Bool := (match ofS (fnB (nmAt i)) with
  | .error _ => false
  | .ok r => decide (r.2.1.map noAt = base8.1) && decide (r.2.2 = base8.2) && decide (∀ x ∈ r.2.1, x.l.length ≤ 100)) &&
  (match ofS (nmAt i) with
  | .error x => decide (x.1 = 0) && decide (x.2.1 = if isPrim (nmAt i) then 90 else 91)
  | .ok _ => false) &&
  (match ofS (dfB (nmAt i)) with
  | .error x => isPrim (nmAt i) && decide (x.2.1 ≠ 0)
  | .ok _ => !isPrim (nmAt i)) && decide ((fnB (nmAt i)).size ≤ 200) && decide ((dfB (nmAt i)).size ≤ 200) && decide ((nmAt i).size ≤ 100)
set_option maxRecDepth 100000 in
theorem chkN_all : ∀ i, i < 8 → chkN i = true := by decide +kernel
theorem base8_len : base8.1.length = 11 ∧ base8.2.length = 2 := by decide +kernel
end SC
end Go.Proofs.YtedbaegdmianaaaDoor
