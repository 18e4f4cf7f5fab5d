/-
  Several texts in one: ExpC4, ExpC5, ExpC6, ExpC7, ExpC8, ExpC9, ExpC10. Each one's own head tells its conditions.
-/
import Derived.Test.YtaghlpolljaedaaGreatExpBase
/-
  Contract of the code's call that makes a function and calls it at once. Conditions: sizes.
-/
namespace Go.Proofs.YtaghlpolljaedaaGreat
open Go.RowKit
namespace EW
open LX SX RW6 EX
open RX (Nd)
set_option maxRecDepth 20000 in
set_option maxHeartbeats 2000000 in
theorem call_any (w : World) {Z : List Nat} (q : Nat) (hz : ∀ b ∈ Z, b < w.heap.size) (a : Int) {pv vb : Value} {names : List ByteArray} {b : Pt} {g m mc : Nat} {vs : List Value} {ps : List Pt} (hp : Sl w Z pv (strs names)) (hb : Is w Z q vb b)
    (hv : Sl w Z (.slice (some ⟨g, 0, none⟩) m mc) vs) (hi : Iss w Z q vs ps) (hm : m ≤ 1099511627776) :
    Calls Tryz.prog 89 #[num a, pv, vb, .slice (some ⟨g, 0, none⟩) m mc] w (PlanQ w Z q (call a names b ps)) := by
  obtain ⟨fb, lb, rfl⟩ := hb.func
  obtain ⟨A, c, rfl, _⟩ := hp.form
  obtain ⟨n, hn⟩ : ∃ n, (strs names).length = n := ⟨_, rfl⟩
  rw [hn] at hp ⊢
  clear hn
  have hsl := hv.len
  obtain ⟨W0, hW0⟩ : ∃ W0, (((w.alloc (.cells #[num a] 3)).alloc (.cells #[.slice A n c] 37)).alloc (.cells #[.func (.func fb) #[] lb] 75)).alloc zP = W0 := ⟨_, rfl⟩
  obtain ⟨k, hk⟩ : ∃ k, w.heap.size = k := ⟨_, rfl⟩
  have hzk : ∀ x ∈ Z, x < k := fun x hx => hk ▸ hz x hx
  have hs0 : W0.heap.size = k + 1 + 1 + 1 + 1 := by rw [← hW0]; simp only [sz_alloc, hk]
  have F0 : MM.Far [] w W0 := by rw [← hW0]; exact ((((MM.Far.refl [] w).alloc _).alloc _).alloc _).alloc _
  have B1 : Bx W0 Z k 3 (num a) := by rw [← hW0]; exact (((bx_new 3 (num a) hk hz).alloc _).alloc _).alloc _
  have B2 : Bx W0 Z (k + 1) 37 (.slice A n c) := by rw [← hW0]; exact (((bx_new 37 (.slice A n c) (by simp only [sz_alloc, hk]) (z_alloc hz)).alloc _).alloc _)
  have B3 : Bx W0 Z (k + 1 + 1) 75 (.func (.func fb) #[] lb) := by rw [← hW0]; exact (bx_new 75 (.func (.func fb) #[] lb) (by simp only [sz_alloc, hk]) (z_alloc (z_alloc hz))).alloc _
  have PB : PlBox W0 (k + 1 + 1 + 1) := by rw [← hW0]; exact PlBox.new (by simp only [sz_alloc, hk])
  have HIF : Is W0 Z q (.func (.func 107) #[] #[ptr k, ptr (k + 1), ptr (k + 1 + 1)]) (.fn a names b) := .fn B1 B2 (hp.far F0 (by simp)) B3 (hb.far F0 (by simp))
  have HVS := hi.far F0 (by simp)
  have HSV := hv.far F0 (by simp)
  -- behind the row of one
  obtain ⟨W, hW⟩ : ∃ W, W0.alloc (.cells #[.func (.func 107) #[] #[ptr k, ptr (k + 1), ptr (k + 1 + 1)]] 75) = W := ⟨_, rfl⟩
  have F1 : MM.Far [] W0 W := by rw [← hW]; exact (MM.Far.refl [] W0).alloc _
  have RB : MM.Row W (k + 1 + 1 + 1 + 1) 75 [.func (.func 107) #[] #[ptr k, ptr (k + 1), ptr (k + 1 + 1)]] := by rw [← hW]; exact row_new 75 _ hs0
  have hFW := F0.trans F1 (by simp)
  have hsW : W.heap.size = k + 1 + 1 + 1 + 1 + 1 := by rw [← hW, sz_alloc, hs0]
  have more5 : ∀ x ∈ (k + 1 + 1 + 1 + 1) :: (k + 1 + 1 + 1) :: Z, x ∈ Z ∨ w.heap.size ≤ x := fun x hx => by
    simp only [List.mem_cons] at hx
    rcases hx with rfl | rfl | hx
    · right; omega
    · right; omega
    · exact .inl hx
  have HISS : Hid (Iss W ((k + 1 + 1 + 1 + 1) :: (k + 1 + 1 + 1) :: Z) q (.func (.func 107) #[] #[ptr k, ptr (k + 1), ptr (k + 1 + 1)] :: vs) (.fn a names b :: ps)) := Lib.hid (by
    have bm {b' : Nat} {t : TypeId} {v : Value} (h : Bx W0 Z b' t v) (hl : b' < k + 1 + 1 + 1) : Bx W ((k + 1 + 1 + 1 + 1) :: (k + 1 + 1 + 1) :: Z) b' t v := ⟨h.row.far F1 (by simp), fun hm => by
      simp only [List.mem_cons] at hm
      rcases hm with h1 | h1 | h1
      · omega
      · omega
      · exact h.out h1⟩
    exact Iss.cons (.fn (bm B1 (by omega)) (bm B2 (by omega)) ((hp.more more5).far hFW (by simp)) (bm B3 (by omega)) ((hb.more more5).far hFW (by simp))) ((hi.more more5).far hFW (by simp)))
  have HOWN : Hid (W.ownsRow k 75 1 (.slice (some ⟨k + 1 + 1 + 1 + 1, 0, none⟩) 1 1) 1 [.func (.func 107) #[] #[ptr k, ptr (k + 1), ptr (k + 1 + 1)]]) := Lib.hid (MO.of_row RB (by omega) rfl (by decide))
  have HSRC : Hid (MM.Src W [] (some ⟨g, 0, none⟩) vs) := Lib.hid (by
    obtain ⟨A', c', e, h1, h2, h3⟩ := hv.far hFW (by simp)
    intro hp
    obtain ⟨g', o', e', _, hl, hc⟩ := h3 0 vs[0] (List.getElem?_eq_getElem hp)
    injection e with e1
    rw [← e1] at e'
    injection e' with e'
    injection e' with e1 e2
    subst e1; subst e2
    refine ⟨_, rfl, by simp, hl, fun j u hu => ?_⟩
    obtain ⟨g2, o2, e', _, hl, hc⟩ := h3 j u hu
    rw [← ‹some _ = A'›] at e'
    injection e' with e'
    injection e' with e1 e2
    subst e1; subst e2
    rw [MM.head_add]
    rw [Nat.zero_add] at hc
    exact hc)
  have HONE : Hid (∀ u ∈ vs, u.oneCell' = true) := Lib.hid (fun u hu => by
    obtain ⟨j, hj, rfl⟩ := List.getElem_of_mem hu
    have hj2 : j < ps.length := by rw [← hi.1]; exact hj
    obtain ⟨f, l, e⟩ := (hi.2 j vs[j] ps[j] (List.getElem?_eq_getElem hj) (List.getElem?_eq_getElem hj2)).func
    rw [e]; rfl)
  have HPB := Lib.hid (PB.far F1 (by simp))
  have HFW := Lib.hid hFW
  have HZK := Lib.hid hzk
  have HSW := Lib.hid hsW
  have HSL := Lib.hid hsl
  have HK := Lib.hid hk
  have HSB : Hid (Sl W ((k + 1 + 1 + 1 + 1) :: (k + 1 + 1 + 1) :: Z) (.slice A n c) (strs names)) := Lib.hid ((hp.more more5).far hFW (by simp))
  have x1 := (B1.far F1 (by simp)).at
  clear B1 B2 B3 PB HIF HVS HSV F0 F1 RB hFW hsW more5 hi hv hb hp hz hzk hsl hs0
  have HW : Hid ((((((w.alloc (.cells #[num a] 3)).alloc (.cells #[.slice A n c] 37)).alloc (.cells #[.func (.func fb) #[] lb] 75)).alloc zP)).alloc (.cells #[.func (.func 107) #[] #[ptr w.heap.size, ptr (w.heap.size + 1), ptr (w.heap.size + 1 + 1)]] 75) = W) := Lib.hid (by rw [hW0, hk]; exact hW)
  clear hW hW0 hk
  unfold num ptr zP at *
  go_enter Tryz.func89, Tryz.ntmps89
  go_wp2
  rw [HW.out, HK.out]
  go_region_law (
    refine MO.step_append ?_ (.tmp 14) (.tmp 15) 76 ?_ k 75 .nilFunc 1 8 parts_slice part_info rfl (by omega) (.slice (some ⟨k + 1 + 1 + 1 + 1, 0, none⟩) 1 1) 1 [.func (.func 107) #[] #[.pointer (some ⟨k, 0, none⟩), .pointer (some ⟨k + 1, 0, none⟩), .pointer (some ⟨k + 1 + 1, 0, none⟩)]] ?_ ?_ (some ⟨g, 0, none⟩) m mc vs ?_ (by rw [HSL.out]; omega) (fun h => by cases h) [] ?_ HONE.out ?_ ?_ ?_ ?_
    · rfl
    · rfl
    · rfl
    · exact HOWN.out
    · rfl
    · exact HSRC.out
    · simp only [maxLen]; omega
    · omega
    · have := HSW.out; show k ≤ W.heap.size; omega
    intro v2 w2 hv2 hg2 hat2
    obtain ⟨A2, c2, e2, _⟩ := MO.form hv2
    subst e2
    have HV2 := Lib.hid hv2
    have hF2 : MM.Far [k + 1 + 1 + 1 + 1] W w2 := MM.Far.of_grown (S := [k + 1 + 1 + 1 + 1]) (a := W) ⟨hg2.os, hg2.tape, hg2.output, hg2.size, hg2.block⟩ (by intro x hx _; simpa [Value.ownBlock, eq_comm] using hx)
    have HF2 := Lib.hid hF2
    have HAT2 := Lib.hid hat2
    have HB2 := Lib.hid (HPB.out.far hF2 (by simp))
    obtain ⟨v0, v1, v2, v3, v4, v5, v6, v7, v8, v9, v10, c0, c1, c2', c3, c4, c5, c6, c7, c8, c9, c10, hfz⟩ := HB2.out.cells
    have y1 := (hF2.cell (p := ⟨k, 0, none⟩) (by have := HSW.out; show k < W.heap.size; omega) (by simp; omega)).trans x1
    clear hv2 hg2 hat2 hF2)
  all_goals
    go_wp2_with fail
    refine fin_pl (b := k + 1 + 1 + 1) rfl rfl rfl HB2.out (HFW.out.trans HF2.out (fun x hx hl => by
      have : x = k + 1 + 1 + 1 + 1 := by simpa using hx
      have := HK.out
      omega)) (by have := HK.out; omega) ?_
    refine ⟨.slice none 0 0, .slice A2 (1 + m) c2, _, rfl, Sl.nil _ _, Sl.own HV2.out (fun x hx hm => ?_), (HISS.out.far HF2.out (by simp)).more (fun x hx => .inl (List.mem_cons_of_mem _ hx))⟩
    have hx2 : x = k + 1 + 1 + 1 + 1 ∨ x = W.heap.size := by
      rcases HAT2.out with e | e
      · left
        rw [e] at hx
        simpa [Value.ownBlock, eq_comm] using hx
      · right
        rw [e] at hx
        injection hx with hx
        exact hx.symm
    have := HSW.out
    rcases List.mem_cons.1 hm with rfl | hm
    · omega
    · have := HZK.out x hm
      omega
end EW
end Go.Proofs.YtaghlpolljaedaaGreat
/-
  Contract of the code's pairs: what is bound, and to what. Conditions: sizes; the row of data may be.
-/
namespace Go.Proofs.YtaghlpolljaedaaGreat
open Go.RowKit
namespace EW
open LX SX RW6 EX
open RX (Nd)
open RM6 (Kin)
/-- At the head of a round over pairs. -/
def PairI (w : World) (bv vv : Value) (bs vs : List Nat) (wr : World) : Prop := MM.Far [] w wr ∧ Kin wr w.heap.size [(bv, bs), (vv, vs)]
def pairsR (o : Option (List Nat × List Nat)) (w' : World) (Z : List Nat) (e : Ending) : Prop := match o with
  | none => ∃ bv A c, e = .returned (.tuple #[bv, .slice A 0 c, .bool false]) ∧ Sl w' Z bv (ints [])
  | some (bs, vs) => ∃ bv vv, e = .returned (.tuple #[bv, vv, .bool true]) ∧ Sl w' Z bv (ints bs) ∧ Sl w' Z vv (ints vs)
def pairs2 (R : Option (List Nat × List Nat)) (kd : Int) : Option (List Nat × List Nat) := match R with
  | none => none
  | some r => if kd = 4 then some r else none
theorem pairsOf_eq (ns : List Nd) (i : Nat) : pairsOf ns i = pairs2 (pairsG ns (ndAt ns i).l [] []) (ndAt ns i).kind := rfl
section
variable {w0 w : World} {Z : List Nat} {q mb : Nat} {DA : Option Addr} {n c : Nat} {ns : List Nd}
set_option maxHeartbeats 2000000 in
set_option maxRecDepth 20000 in
theorem pairs_any (h : Env w0 w Z q (.slice DA n c) mb) (hN : NdR w0 DA ns) (hn : ns.length = n) (hok : Ok ns) (hll : ∀ i, i < n → (ndAt ns i).l.length ≤ 100000) {i : Nat} (hi : i < n) :
    Calls Tryz.prog 88 #[ptr q, num i] w fun e w' => pairsR (pairsOf ns i) w' Z e ∧ MM.Far [] w w' := by
  obtain ⟨b, o, LA, lc, rfl, hb0, d0, d1, d2, d3, d4, hSl⟩ := h.dat hN (i := i) (by omega)
  have c0 := h.c0
  have hi0 : (0 : Int) ≤ (i : Int) := by omega
  have hi1 : (i : Int) < (n : Int) := by omega
  have hkl := hll i hi
  have HENV := Lib.hid h
  have HDAT := Lib.hid (fun (wr : World) (f : MM.Far [] w wr) (p : Nat) (hp : p < ns.length) => (h.to f).dat hN hp)
  have HIN : Hid (∀ p ∈ (ndAt ns i).l, p < n) := Lib.hid (fun p hp => hn ▸ (kid hok hp).2)
  have HLEAF : Hid ((ndAt ns i).kind ≠ 4 → (ndAt ns i).l = []) := Lib.hid (fun hk => by
    have e : ndAt ns i = ns[i]'(by omega) := by
      unfold ndAt
      rw [List.getD_eq_getElem?_getD, List.getElem?_eq_getElem (by omega)]; rfl
    have := hok.leaf ns[i] (List.getElem_mem _)
    rw [e] at hk ⊢
    exact this hk)
  have HZ := Lib.hid h.z
  have HN := Lib.hid hn
  have HKL := Lib.hid hll
  rw [pairsOf_eq]
  generalize ndAt ns i = d at *
  obtain ⟨kd, at_, nn, s, l⟩ := d
  simp only at *
  obtain ⟨m, hm⟩ : ∃ m, l.length = m := ⟨_, rfl⟩
  rw [hm] at d4 hSl hkl
  have HM := Lib.hid hm
  have HL := Lib.hid (hSl.alloc (.cells #[.int .u8 kd, .int .i64 at_, .int .i64 nn, .string s, .slice LA m lc] 53))
  obtain ⟨R, hR⟩ : ∃ R, pairsG ns l [] [] = R := ⟨_, rfl⟩
  rw [hR]
  have HG := Lib.hid hR
  clear h hN hn hok hSl hm hb0 hR hll
  unfold ptr num
  go_enter Tryz.func88, Tryz.ntmps88
  go_wp2
  have HF0 : Hid (MM.Far [] w (w.alloc (.cells #[.int .u8 kd, .int .i64 at_, .int .i64 nn, .string s, .slice LA m lc] 53))) := Lib.hid ((MM.Far.refl [] w).alloc _)
  have HBX : Hid (MM.Row (w.alloc (.cells #[.int .u8 kd, .int .i64 at_, .int .i64 nn, .string s, .slice LA m lc] 53)) w.heap.size 53 [.int .u8 kd, .int .i64 at_, .int .i64 nn, .string s, .slice LA m lc]) := Lib.hid (MM.Row.new w _ _)
  generalize w.alloc (.cells #[.int .u8 kd, .int .i64 at_, .int .i64 nn, .string s, .slice LA m lc] 53) = W at *
  have HI0 : Hid (PairI W (.slice none 0 0) (.slice none 0 0) [] [] W) := Lib.hid ⟨MM.Far.refl [] W, ⟨fun k hk => by
    simp only [List.mem_cons, List.not_mem_nil, or_false] at hk
    rcases hk with rfl | rfl <;> exact MO.none_ _ _ _ _, by simp [Value.ownBlock]⟩⟩
  clear d0 d1 d2 d3 d4
  go_loopw [4, 5, 21] (fun s4 s5 s21 wr => ∃ (k : Nat) (bs vs : List Nat) (A1 : Option Addr) (c1 : Nat) (A2 : Option Addr) (c2 : Nat), k ≤ m ∧ s21 = .int .i64 (k : Int) ∧ s4 = .slice A1 bs.length c1 ∧ s5 = .slice A2 vs.length c2 ∧ bs.length = k ∧ vs.length = k ∧ Hid (PairI W (.slice A1 bs.length c1) (.slice A2 vs.length c2) bs vs wr ∧ pairsG ns (l.drop k) bs vs = R)) (fun _ _ s21 _ => m - (intOf s21).toNat)
  case atStart => exact ⟨0, [], [], none, 0, none, 0, by omega, rfl, rfl, rfl, rfl, rfl, Lib.hid ⟨HI0.out, HG.out⟩⟩
  case round =>
    obtain ⟨k, bs, vs, A1, c1, A2, c2, hk, rfl, rfl, rfl, hbl, hvl, hH⟩ := hrel
    obtain ⟨⟨hF, hK⟩, hG⟩ := hH.out
    have HF := Lib.hid hF
    have HFw := Lib.hid (HF0.out.trans hF (by simp))
    have HK := Lib.hid hK
    have HBL := Lib.hid hbl
    have HVL := Lib.hid hvl
    clear hF hK hH HI0 HG hbl hvl
    by_cases hlt : k < m
    · have hk2 : k < l.length := by rw [HM.out]; exact hlt
      obtain ⟨A', c', e, hc1, hc2, hc3⟩ := HL.out.far HF.out (by simp)
      injection e with e1 e2 e3
      subst e1 e3
      obtain ⟨g, o2, rfl, hz, hg, cc⟩ := hc3 k (.int .i64 ((l[k] : Nat) : Int)) (by unfold ints; rw [List.getElem?_map, List.getElem?_eq_getElem hk2]; rfl)
      have hix : l[k] < n := HIN.out _ (List.getElem_mem hk2)
      rw [List.drop_eq_getElem_cons hk2] at hG
      generalize l[k] = p at *
      unfold pairsG at hG
      obtain ⟨b', o', LB, lb, e, _, g0, g1, g2, g3, g4, hS2⟩ := HDAT.out w (MM.Far.refl [] w) p (by rw [HN.out]; exact hix)
      injection e with e
      injection e with ea eb
      subst ea; subst eb
      have q0 := far_cell HFw.out c0
      have q4 := far_cell HFw.out g4
      have hp0 : (0 : Int) ≤ (p : Int) := by omega
      have hp1 : (p : Int) < (n : Int) := by omega
      have hpl := HKL.out p hix
      generalize ndAt ns p = dp at *
      obtain ⟨kp, ap, np, sp, lp⟩ := dp
      simp only at *
      clear hk2 e2 hc1 hc2 hc3 hz hg g0 g1 g2 g3
      by_cases h2 : lp.length = 2
      · obtain ⟨x, y, rfl⟩ : ∃ x y, lp = [x, y] := by
          obtain ⟨x, y, t, rfl⟩ := two (r := lp) (by omega)
          have : t = [] := by simpa using h2
          subst this
          exact ⟨x, y, rfl⟩
        rw [if_pos h2] at hG
        simp only [List.getD_cons_zero, List.getD_cons_succ] at hG
        have HG := Lib.hid hG
        rw [int_head] at hS2
        obtain ⟨g, o3, c3, e, y0, hc1, hc2, _, _, hS3⟩ := hS2.cons
        rw [int_head] at hS3
        obtain ⟨g', o4, c4, e', y1, _⟩ := hS3.cons
        injection e with e1 e2 e3
        subst e1; subst e3
        injection e' with e1 e2 e3
        rw [if_neg (by have : (ints ([] : List Nat)).length = 0 := rfl; have : (num y :: ints ([] : List Nat)).length = 1 := rfl; omega)] at e1
        injection e1 with e1
        injection e1 with ea eb
        subst ea; subst eb
        have HO1 := Lib.hid (HK.out.each (.slice A1 bs.length c1, bs) (by simp))
        unfold num at y0 y1
        clear hG hS2 hS3 e2 e3 hc1 hc2 hpl h2
        have z0 := far_cell HFw.out y0
        have z1 := far_cell HFw.out y1
        clear y0
        have hl1 : (ints [y]).length = 1 := rfl
        have hl0 : [x, y].length = 2 := rfl
        have hbW : Hid (W.heap.size ≤ wr.heap.size) := Lib.hid HF.out.size
        have hww : Hid (w.heap.size ≤ W.heap.size) := Lib.hid HF0.out.size
        have hb1 : bs.length ≤ 100000 := by have := HBL.out; omega
        have hb2 : vs.length ≤ 100000 := by have := HVL.out; omega
        go_wp2_with (first
          | (at_builtin; refine RC6.kin_push HO1.out hbW.out hb1 rfl (.tmp 36) (.tmp 40) rfl rfl rfl ?_; intro A3 c3 w3 hO3 hF3 ha3
             have HK3 := Lib.hid (HK.out.grow hO3 hF3 ha3)
             have hF4 : MM.Far [] w w3 := HFw.out.trans hF3 (fun x hx hl => by have h1 := (MM.own_lt HO1.out x (by simpa using hx)).2; have := hww.out; omega)
             have hF5 : MM.Far [] W w3 := HF.out.trans hF3 (fun x hx hl => by have h1 := (MM.own_lt HO1.out x (by simpa using hx)).2; omega)
             have t1 := far_cell hF4 y1
             have HF4 := Lib.hid hF4
             have HF5 := Lib.hid hF5
             have HO4 := Lib.hid (HK3.out.each (.slice A2 vs.length c2, vs) (by simp))
             clear hO3 hF3 ha3 hF4 hF5)
          | (at_builtin; refine RC6.kin_push HO4.out HF5.out.size hb2 rfl (.tmp 42) (.tmp 46) rfl rfl rfl ?_; intro A5 c5 w5 hO5 hF5' ha5
             have HK5 := Lib.hid (((HK3.out.perm (List.Perm.swap _ _ _)).grow hO5 hF5' ha5).perm (List.Perm.swap _ _ _))
             have HF6 := Lib.hid (HF5.out.trans hF5' (S := []) (fun x hx hl => by have h1 := (MM.own_lt HO4.out x (by simpa using hx)).2; omega))
             clear hO5 hF5' ha5))
        go_roundw
        case rel => exact ⟨k + 1, bs ++ [x], vs ++ [y], A3, c3, A5, c5, by omega, by go_num, by simp, by simp, by simp [HBL.out], by simp [HVL.out], Lib.hid ⟨⟨HF6.out, by simpa using HK5.out⟩, HG.out⟩⟩
        case measure => simp [intOf]; omega
      · rw [if_neg h2] at hG
        have HG : Hid (none = R) := Lib.hid hG
        have h3 : ¬ ((lp.length : Nat) : Int) = 2 := by omega
        clear hG
        go_wp2
        go_ret3
        refine ⟨?_, HFw.out⟩
        rw [← HG.out]
        exact ⟨_, _, _, rfl, Sl.nil _ _⟩
    · obtain rfl : k = m := by omega
      rw [List.drop_of_length_le (by rw [HM.out]; exact Nat.le_refl _)] at hG
      simp only [pairsG] at hG
      subst hG
      obtain ⟨bx0, bx1, bx2, bx3, bx4⟩ : (wr.cell? ⟨w.heap.size, 0, none⟩ = some (.int .u8 kd)) ∧ True ∧ True ∧ True ∧ True := ⟨far_cell HF.out (HBX.out.at (i := 0) rfl), trivial, trivial, trivial, trivial⟩
      have hown (v : Value) (l2 : List Nat) (hm : (v, l2) ∈ [(Value.slice A1 bs.length c1, bs), (Value.slice A2 vs.length c2, vs)]) : Sl wr Z v (ints l2) := Sl.own (HK.out.each (v, l2) hm) (fun x hx hm2 => by
        have h1 := (MM.own_lt (HK.out.each (v, l2) hm) x hx).2
        have h2 := HZ.out x hm2
        have := HF0.out.size
        omega)
      have HS1 := Lib.hid (hown (.slice A1 bs.length c1) bs (by simp))
      have HS2 := Lib.hid (hown (.slice A2 vs.length c2) vs (by simp))
      clear hown
      by_cases h4 : kd = 4
      · subst h4
        go_wp2
        go_quiet (fail)
        go_wp2
        go_ret3
        refine ⟨?_, HFw.out.drewN _⟩
        show pairsR (pairs2 (some (bs, vs)) 4) _ _ _
        exact ⟨_, _, rfl, HS1.out.far ((MM.Far.refl [] wr).drewN _) (by simp), HS2.out.far ((MM.Far.refl [] wr).drewN _) (by simp)⟩
      · have hl0 := HLEAF.out h4
        have hk0 : k = 0 := by rw [← HM.out, hl0]; rfl
        have e1 : bs.length = 0 := by have := HBL.out; omega
        have e2 : vs.length = 0 := by have := HVL.out; omega
        have h5 : (kd == 4) = false := by simp [h4]
        have HE : Hid (pairs2 (some (bs, vs)) kd = none) := Lib.hid (by unfold pairs2; simp only []; rw [if_neg h4])
        rw [e1] at HS1 ⊢
        rw [e2]
        have HBN : Hid (bs = []) := Lib.hid (List.eq_nil_of_length_eq_zero e1)
        clear e1 e2
        go_wp2
        go_quiet (fail)
        go_wp2
        go_ret3
        refine ⟨?_, HFw.out.drewN _⟩
        rw [HE.out]
        have hs := HS1.out
        rw [HBN.out] at hs
        refine ⟨_, A2, c2, ?_, hs.far ((MM.Far.refl [] wr).drewN _) (by simp)⟩
        rfl
end
end EW
end Go.Proofs.YtaghlpolljaedaaGreat
/-
  Contracts of the code's parts whose turn has come, and of the plans that are made of rows: nested, and, or, chain. Conditions: sizes.
-/
namespace Go.Proofs.YtaghlpolljaedaaGreat
open Go.RowKit
namespace EW
open LX SX RW6 EX
open RX (Nd)
theorem Bx.cons {w : World} {Z : List Nat} {b kb : Nat} {t : TypeId} {v : Value} (h : Bx w Z b t v) (hne : b ≠ kb) : Bx w (kb :: Z) b t v := ⟨h.row, fun hm => by
  rcases List.mem_cons.1 hm with h1 | h1
  · exact hne h1
  · exact h.out h1⟩
section
variable (w : World) {Z : List Nat} (q : Nat) (hz : ∀ b ∈ Z, b < w.heap.size)
include hz
set_option maxRecDepth 20000 in
set_option maxHeartbeats 2000000 in
theorem fn_call {ba bn bb : Nat} {a : Int} {vn vb : Value} {names : List ByteArray} {b : Pt} (h1 : Bx w Z ba 3 (num a)) (h2 : Bx w Z bn 37 vn) (h3 : Sl w Z vn (strs names)) (h4 : Bx w Z bb 75 vb) (h5 : Is w Z q vb b) :
    Calls Tryz.prog 107 #[ptr ba, ptr bn, ptr bb] w (PlanQ w Z q (function a names b)) := by
  obtain ⟨W, hW⟩ : ∃ W, (w.alloc zP) = W := ⟨_, rfl⟩
  obtain ⟨k, hk⟩ : ∃ k, w.heap.size = k := ⟨_, rfl⟩
  have F0 : MM.Far [] w W := by rw [← hW]; exact ((MM.Far.refl [] w).alloc _)
  have HB : Hid (PlBox W k) := Lib.hid (by rw [← hW]; exact PlBox.new hk)
  have HZ : Hid (∀ x ∈ k :: Z, x < W.heap.size) := Lib.hid (by rw [← hW]; exact z_cons hk hz)
  have HF := Lib.hid F0
  have HK := Lib.hid hk
  have MZ : ∀ x ∈ k :: Z, x ∈ Z ∨ w.heap.size ≤ x := fun x hx => (List.mem_cons.1 hx).elim (fun e => .inr (by omega)) .inl
  obtain ⟨A0, d0, rfl, _⟩ := h3.form
  obtain ⟨fb, lb, rfl⟩ := h5.func
  have g1 := (h1.far F0 (by simp)).at
  have g2 := (h2.far F0 (by simp)).at
  have g4 := (h4.far F0 (by simp)).at
  have HC := Lib.hid (function_any W q HZ.out a ((h3.more MZ).far F0 (by simp)) ((h5.more MZ).far F0 (by simp)))
  clear h1 h2 h3 h4 h5 hz F0 MZ
  subst hW; subst hk
  unfold zP ptr num at *
  go_enter Tryz.func107, Tryz.ntmps107
  go_wp2_with (go_at_call 82; refine HC.out.mono ?_; rintro e wp ⟨v, rfl, hI, hFp⟩; obtain ⟨bad, kind, at_, nn, s, A, m, c, A2, m2, c2, ins, rfl, hins⟩ := hI.form; have HFp := Lib.hid (MM.Far.trans (MM.Far.refl [] _) hFp (by simp)); have HBp := Lib.hid (HB.out.far HFp.out (by simp)); have HFq := Lib.hid (HF.out.trans HFp.out (by simp)); have HI := Lib.hid hI; clear hI; obtain ⟨v0, v1, v2, v3, v4, v5, v6, v7, v8, v9, v10, y0, y1, y2, y3, y4, y5, y6, y7, y8, y9, y10, hfz⟩ := HBp.out.cells)
  exact fin_pl rfl rfl rfl HBp.out HFq.out (by have := HK.out; omega) HI.out
set_option maxRecDepth 20000 in
set_option maxHeartbeats 2000000 in
theorem fnd_call {bl bn bb : Nat} {a : Int} {rv tv vn vb : Value} {names : List ByteArray} {b : Pt} (h1 : MM.Row w bl 95 [num a, rv, tv]) (h2 : Bx w Z bn 37 vn) (h3 : Sl w Z vn (strs names)) (h4 : Bx w Z bb 75 vb) (h5 : Is w Z q vb b) :
    Calls Tryz.prog 106 #[ptr bl, ptr bn, ptr bb] w (PlanQ w Z q (function a names b)) := by
  obtain ⟨W, hW⟩ : ∃ W, (w.alloc zP) = W := ⟨_, rfl⟩
  obtain ⟨k, hk⟩ : ∃ k, w.heap.size = k := ⟨_, rfl⟩
  have F0 : MM.Far [] w W := by rw [← hW]; exact ((MM.Far.refl [] w).alloc _)
  have HB : Hid (PlBox W k) := Lib.hid (by rw [← hW]; exact PlBox.new hk)
  have HZ : Hid (∀ x ∈ k :: Z, x < W.heap.size) := Lib.hid (by rw [← hW]; exact z_cons hk hz)
  have HF := Lib.hid F0
  have HK := Lib.hid hk
  have MZ : ∀ x ∈ k :: Z, x ∈ Z ∨ w.heap.size ≤ x := fun x hx => (List.mem_cons.1 hx).elim (fun e => .inr (by omega)) .inl
  obtain ⟨A0, d0, rfl, _⟩ := h3.form
  obtain ⟨fb, lb, rfl⟩ := h5.func
  have g1 := (h1.far F0 (by simp)).at (i := 0) rfl
  have g2 := (h2.far F0 (by simp)).at
  have g4 := (h4.far F0 (by simp)).at
  have HC := Lib.hid (function_any W q HZ.out a ((h3.more MZ).far F0 (by simp)) ((h5.more MZ).far F0 (by simp)))
  clear h1 h2 h3 h4 h5 hz F0 MZ
  subst hW; subst hk
  unfold zP ptr num at *
  go_enter Tryz.func106, Tryz.ntmps106
  go_wp2_with (go_at_call 82; refine HC.out.mono ?_; rintro e wp ⟨v, rfl, hI, hFp⟩; obtain ⟨bad, kind, at_, nn, s, A, m, c, A2, m2, c2, ins, rfl, hins⟩ := hI.form; have HFp := Lib.hid (MM.Far.trans (MM.Far.refl [] _) hFp (by simp)); have HBp := Lib.hid (HB.out.far HFp.out (by simp)); have HFq := Lib.hid (HF.out.trans HFp.out (by simp)); have HI := Lib.hid hI; clear hI; obtain ⟨v0, v1, v2, v3, v4, v5, v6, v7, v8, v9, v10, y0, y1, y2, y3, y4, y5, y6, y7, y8, y9, y10, hfz⟩ := HBp.out.cells)
  exact fin_pl rfl rfl rfl HBp.out HFq.out (by have := HK.out; omega) HI.out
set_option maxRecDepth 20000 in
set_option maxHeartbeats 2000000 in
theorem kept_call {ba : Nat} {a : Int} (h1 : Bx w Z ba 3 (num a)) : Calls Tryz.prog 109 #[ptr ba] w (PlanQ w Z q (.mk ⟨4, a, 0, EX.blank, [], []⟩ [])) := by
  obtain ⟨W, hW⟩ : ∃ W, (w.alloc zP) = W := ⟨_, rfl⟩
  obtain ⟨k, hk⟩ : ∃ k, w.heap.size = k := ⟨_, rfl⟩
  have F0 : MM.Far [] w W := by rw [← hW]; exact ((MM.Far.refl [] w).alloc _)
  have HB : Hid (PlBox W k) := Lib.hid (by rw [← hW]; exact PlBox.new hk)
  have HZ : Hid (∀ x ∈ k :: Z, x < W.heap.size) := Lib.hid (by rw [← hW]; exact z_cons hk hz)
  have HF := Lib.hid F0
  have HK := Lib.hid hk
  have MZ : ∀ x ∈ k :: Z, x ∈ Z ∨ w.heap.size ≤ x := fun x hx => (List.mem_cons.1 hx).elim (fun e => .inr (by omega)) .inl
  have g1 := (h1.far F0 (by simp)).at
  have hne : ¬ k = ba := by have := h1.lt; omega
  have hne2 : ¬ ba = k := by omega
  have HC := Lib.hid (MC.clone_any ⟨#[32]⟩ W.drew (show (1 : Nat) ≤ 140737488355328 by omega))
  clear h1 hz F0 MZ
  subst hW; subst hk
  unfold zP ptr num at *
  go_enter Tryz.func109, Tryz.ntmps109
  go_wp2
  generalize w.alloc (.cells #[.bool false, .int .u8 0, .int .i64 0, .int .i64 0, .int .i64 0, .string ⟨#[]⟩, .slice none 0 0, .int .u64 0, .slice none 0 0, .slice none 0 0, .nilFunc] 78) = W at *
  go_region_held3 (fun w' => w'.cell? ⟨ba, 0, none⟩ = some (.int .i64 a)) (first | (with_reducible assumption) | go_keep) (first
    | (go_at_call 65; refine HC.out.mono ?_; rintro e w1 ⟨rfl, hF1⟩; have hk1 := far_cell hF1 (by assumption); have HF1 := Lib.hid ((MM.Far.refl [] W).drew.trans hF1 (by simp)); have HB1 := Lib.hid (HB.out.far HF1.out (by simp)); clear hF1; obtain ⟨v0, v1, v2, v3, v4, v5, v6, v7, v8, v9, v10, y0, y1, y2, y3, y4, y5, y6, y7, y8, y9, y10, hfz⟩ := HB1.out.cells))
  go_wp2
  exact fin_pl rfl rfl rfl HB1.out (HF.out.trans HF1.out (by simp)) (Nat.le_refl _) ⟨_, _, _, rfl, Sl.nil _ _, Sl.nil _ _, Iss.nil _ _ _⟩
end
end EW
end Go.Proofs.YtaghlpolljaedaaGreat
/-
  Contracts of the code's parts that are rows, and of what an or keeps. Conditions: sizes.
-/
namespace Go.Proofs.YtaghlpolljaedaaGreat
open Go.RowKit
namespace EW
open LX SX RW6 EX
open RX (Nd)
theorem z_drew {w : World} {Z : List Nat} (hz : ∀ b ∈ Z, b < w.heap.size) : ∀ b ∈ Z, b < w.drew.heap.size := hz
section
variable (w : World) {Z : List Nat} (q : Nat) (hz : ∀ b ∈ Z, b < w.heap.size)
include hz
set_option maxRecDepth 20000 in
set_option maxHeartbeats 2000000 in
theorem seq_call {ba bx bl : Nat} {a : Int} {v : Value} {l : List Nat} (h1 : Bx w Z ba 3 (num a)) (h2 : Bx w Z bx 44 (ptr q)) (h3 : Bx w Z bl 23 v) (h4 : Sl w Z v (ints l)) (hm : l.length ≤ 1099511627776) :
    Calls Tryz.prog 84 #[ptr ba, ptr bx, ptr bl] w (PlanQ w Z q (.mk (frm 8 a 0) (l.map .dat))) := by
  obtain ⟨W, hW⟩ : ∃ W, (w.alloc zP) = W := ⟨_, rfl⟩
  obtain ⟨k, hk⟩ : ∃ k, w.heap.size = k := ⟨_, rfl⟩
  have F0 : MM.Far [] w W := by rw [← hW]; exact ((MM.Far.refl [] w).alloc _)
  have HB : Hid (PlBox W k) := Lib.hid (by rw [← hW]; exact PlBox.new hk)
  have HZ : Hid (∀ x ∈ k :: Z, x < W.heap.size) := Lib.hid (by rw [← hW]; exact z_cons hk hz)
  have HF := Lib.hid F0
  have HK := Lib.hid hk
  have MZ : ∀ x ∈ k :: Z, x ∈ Z ∨ w.heap.size ≤ x := fun x hx => (List.mem_cons.1 hx).elim (fun e => .inr (by omega)) .inl
  obtain ⟨A0, d0, rfl, _⟩ := h4.form
  obtain ⟨m0, hm0⟩ : ∃ m0, (ints l).length = m0 := ⟨_, rfl⟩
  rw [hm0] at h3 h4
  have g1 := (h1.far F0 (by simp)).at
  have g2 := (h2.far F0 (by simp)).at
  have g3 := (h3.far F0 (by simp)).at
  have hne1 : ¬ k = ba := by have := h1.lt; omega
  have hne2 : ¬ k = bx := by have := h2.lt; omega
  have hne3 : ¬ k = bl := by have := h3.lt; omega
  have HC := Lib.hid (all_any W.drew q (z_drew HZ.out) ((h4.more MZ).far F0.drew (by simp)) (by rw [← hm0, ints_len]) (by rw [← hm0, ints_len]; exact hm))
  clear h1 h2 h3 h4 hz F0 MZ hm0
  subst hW; subst hk
  unfold zP ptr num at *
  go_enter Tryz.func84, Tryz.ntmps84
  go_wp2
  generalize w.alloc (.cells #[.bool false, .int .u8 0, .int .i64 0, .int .i64 0, .int .i64 0, .string ⟨#[]⟩, .slice none 0 0, .int .u64 0, .slice none 0 0, .slice none 0 0, .nilFunc] 78) = W at *
  go_region_held3 (fun w' => w'.cell? ⟨ba, 0, none⟩ = some (.int .i64 a) ∧ w'.cell? ⟨bx, 0, none⟩ = some (.pointer (some ⟨q, 0, none⟩)) ∧ w'.cell? ⟨bl, 0, none⟩ = some (.slice A0 m0 d0)) (first | (with_reducible assumption) | go_keep) (first
    | (go_at_call 85; refine HC.out.mono ?_; rintro e w1 ⟨g, m1, vs, rfl, hm1, hS1, hI1, hF1⟩; have hk1 := keep3 hF1 (by assumption); have HF1 := Lib.hid ((MM.Far.refl [] W).drew.trans hF1 (by simp)); have HB1 := Lib.hid (HB.out.far HF1.out (by simp)); have HS1 := Lib.hid hS1; have HI1 := Lib.hid hI1; clear hF1 hS1 hI1 hm1; obtain ⟨v0, v1, v2, v3, v4, v5, v6, v7, v8, v9, v10, y0, y1, y2, y3, y4, y5, y6, y7, y8, y9, y10, hfz⟩ := HB1.out.cells))
  go_wp2
  exact fin_pl rfl rfl rfl HB1.out (HF.out.trans HF1.out (by simp)) (Nat.le_refl _) ⟨_, _, vs, rfl, Sl.nil _ _, HS1.out, HI1.out⟩
set_option maxRecDepth 20000 in
set_option maxHeartbeats 2000000 in
theorem orb_call {ba bo : Nat} {a : Int} {vo : Value} {l : List Nat} (h1 : Bx w Z ba 3 (num a)) (h2 : Bx w Z bo 74 vo) (h3 : Is w Z q vo (.or a l)) :
    Calls Tryz.prog 97 #[ptr ba, ptr bo] w (PlanQ w Z q (choosePl a (.kept a) (.kept a) (.or a l))) := by
  obtain ⟨W, hW⟩ : ∃ W, (w.alloc zP) = W := ⟨_, rfl⟩
  obtain ⟨k, hk⟩ : ∃ k, w.heap.size = k := ⟨_, rfl⟩
  have F0 : MM.Far [] w W := by rw [← hW]; exact ((MM.Far.refl [] w).alloc _)
  have HB : Hid (PlBox W k) := Lib.hid (by rw [← hW]; exact PlBox.new hk)
  have HZ : Hid (∀ x ∈ k :: Z, x < W.heap.size) := Lib.hid (by rw [← hW]; exact z_cons hk hz)
  have HF := Lib.hid F0
  have HK := Lib.hid hk
  have MZ : ∀ x ∈ k :: Z, x ∈ Z ∨ w.heap.size ≤ x := fun x hx => (List.mem_cons.1 hx).elim (fun e => .inr (by omega)) .inl
  obtain ⟨fo, lo, rfl⟩ := h3.func
  have g1 := (h1.far F0 (by simp)).at
  have g2 := (h2.far F0 (by simp)).at
  have hne1 : ¬ k = ba := by have := h1.lt; omega
  have hne2 : ¬ k = bo := by have := h2.lt; omega
  have HO := Lib.hid ((h3.more MZ).far F0 (by simp))
  clear h1 h2 h3 hz F0 MZ
  subst hW; subst hk
  unfold zP ptr num at *
  go_enter Tryz.func97, Tryz.ntmps97
  go_wp2
  generalize w.alloc (.cells #[.bool false, .int .u8 0, .int .i64 0, .int .i64 0, .int .i64 0, .string ⟨#[]⟩, .slice none 0 0, .int .u64 0, .slice none 0 0, .slice none 0 0, .nilFunc] 78) = W at *
  go_region_held3 (fun w' => w'.cell? ⟨ba, 0, none⟩ = some (.int .i64 a) ∧ w'.cell? ⟨bo, 0, none⟩ = some (.func (.func fo) #[] lo)) (first | (with_reducible assumption) | go_keep) (first
    | (go_at_call 61; refine (choose_any _ q (z_far HZ.out HF2.out) a HI1b.out HI2.out (HO.out.far HF2.out (by simp))).mono ?_; rintro e w3 ⟨v3, rfl, hI3, hF3⟩; obtain ⟨bad, kind, at_, nn, s, A, m, c, A2, m2, c2, ins, rfl, hins⟩ := hI3.form; have hk3 := keep2 hF3 (by assumption); have HF3 := Lib.hid (HF2.out.trans hF3 (by simp)); have HI3 := Lib.hid hI3; have HB3 := Lib.hid (HB.out.far HF3.out (by simp)); clear hF3 hI3; obtain ⟨v0, v1, v2, v3, v4, v5, v6, v7, v8, v9, v10, y0, y1, y2, y3, y4, y5, y6, y7, y8, y9, y10, hfz⟩ := HB3.out.cells)
    | (go_at_call 98; refine (kept_any _ q (z_far HZ.out HF1.out) a).mono ?_; rintro e w2 ⟨v2, rfl, hI2, hF2⟩; obtain ⟨f2, l2, rfl⟩ := hI2.func; have hk2 := keep2 hF2 (by assumption); have HF2 := Lib.hid (HF1.out.trans hF2 (by simp)); have HI1b := Lib.hid (HI1.out.far hF2 (by simp)); have HI2 := Lib.hid hI2; clear hF2 hI2)
    | (go_at_call 98; refine (kept_any _ q (z_drew HZ.out) a).mono ?_; rintro e w1 ⟨v1, rfl, hI1, hF1⟩; obtain ⟨f1, l1, rfl⟩ := hI1.func; have hk1 := keep2 hF1 (by assumption); have HF1 := Lib.hid ((MM.Far.refl [] W).drew.trans hF1 (by simp)); have HI1 := Lib.hid hI1; clear hF1 hI1))
  go_wp2
  exact fin_pl rfl rfl rfl HB3.out (HF.out.trans HF3.out (by simp)) (Nat.le_refl _) HI3.out
set_option maxRecDepth 20000 in
set_option maxHeartbeats 2000000 in
theorem and1_call {bx ba bl : Nat} {a : Int} {v : Value} {i : Nat} {l : List Nat} (h1 : Bx w Z bx 44 (ptr q)) (h2 : Bx w Z ba 3 (num a)) (h3 : Bx w Z bl 23 v) (h4 : Sl w Z v (ints (i :: l))) :
    Calls Tryz.prog 93 #[ptr bx, ptr ba, ptr bl] w (PlanQ w Z q (choosePl a (.dat i) (.and a l) (.tr a 0))) := by
  obtain ⟨W, hW⟩ : ∃ W, (w.alloc zP) = W := ⟨_, rfl⟩
  obtain ⟨k, hk⟩ : ∃ k, w.heap.size = k := ⟨_, rfl⟩
  have F0 : MM.Far [] w W := by rw [← hW]; exact ((MM.Far.refl [] w).alloc _)
  have HB : Hid (PlBox W k) := Lib.hid (by rw [← hW]; exact PlBox.new hk)
  have HZ : Hid (∀ x ∈ k :: Z, x < W.heap.size) := Lib.hid (by rw [← hW]; exact z_cons hk hz)
  have HF := Lib.hid F0
  have HK := Lib.hid hk
  have MZ : ∀ x ∈ k :: Z, x ∈ Z ∨ w.heap.size ≤ x := fun x hx => (List.mem_cons.1 hx).elim (fun e => .inr (by omega)) .inl
  have HO : Hid (Is W (k :: Z) q (.func (.func 94) #[] #[ptr bx, ptr ba, ptr bl]) (.and a l)) := Lib.hid ((Is.and (h1.more MZ) (h2.more MZ) (h3.more MZ) (h4.more MZ)).far F0 (by simp))
  have g1 := (h1.far F0 (by simp)).at
  have g2 := (h2.far F0 (by simp)).at
  have g3 := (h3.far F0 (by simp)).at
  have hne1 : ¬ k = ba := by have := h2.lt; omega
  have hne2 : ¬ k = bx := by have := h1.lt; omega
  have hne3 : ¬ k = bl := by have := h3.lt; omega
  rw [int_head] at h4
  obtain ⟨g, o, c0, rfl, hc, hc1, hc2, hg, hgz, _⟩ := h4.cons
  obtain ⟨m0, hm0⟩ : ∃ m0, (ints l).length = m0 := ⟨_, rfl⟩
  rw [hm0] at h3 g3
  have g4 := far_cell F0 hc
  have hne4 : ¬ k = g := by omega
  clear h1 h2 h3 h4 hz F0 MZ hm0 hc hc1 hc2 hgz hg
  subst hW; subst hk
  unfold zP ptr num at *
  go_enter Tryz.func93, Tryz.ntmps93
  go_wp2
  generalize w.alloc (.cells #[.bool false, .int .u8 0, .int .i64 0, .int .i64 0, .int .i64 0, .string ⟨#[]⟩, .slice none 0 0, .int .u64 0, .slice none 0 0, .slice none 0 0, .nilFunc] 78) = W at *
  go_region_held3 (fun w' => w'.cell? ⟨ba, 0, none⟩ = some (.int .i64 a) ∧ w'.cell? ⟨bx, 0, none⟩ = some (.pointer (some ⟨q, 0, none⟩)) ∧ w'.cell? ⟨bl, 0, none⟩ = some (.slice (some ⟨g, o, none⟩) (m0 + 1) c0) ∧ w'.cell? ⟨g, o, none⟩ = some (.int .i64 i)) (first | (with_reducible assumption) | go_keep) (first
    | (go_at_call 61; refine (choose_any _ q (z_far HZ.out HF2.out) a HI1b.out (HO.out.far HF2.out (by simp)) HI2.out).mono ?_; rintro e w3 ⟨v3, rfl, hI3, hF3⟩; obtain ⟨bad, kind, at_, nn, s, A, m, c, A2, m2, c2, ins, rfl, hins⟩ := hI3.form; have hk3 := keep4 hF3 (by assumption); have HF3 := Lib.hid (HF2.out.trans hF3 (by simp)); have HI3 := Lib.hid hI3; have HB3 := Lib.hid (HB.out.far HF3.out (by simp)); clear hF3 hI3; obtain ⟨v0, v1, v2, v3, v4, v5, v6, v7, v8, v9, v10, y0, y1, y2, y3, y4, y5, y6, y7, y8, y9, y10, hfz⟩ := HB3.out.cells)
    | (go_at_call 63; refine (truth_any _ q (z_far HZ.out HF1.out) a 0).mono ?_; rintro e w2 ⟨v2, rfl, hI2, hF2⟩; obtain ⟨f2, l2, rfl⟩ := hI2.func; have hk2 := keep4 hF2 (by assumption); have HF2 := Lib.hid (HF1.out.trans hF2 (by simp)); have HI1b := Lib.hid (HI1.out.far hF2 (by simp)); have HI2 := Lib.hid hI2; clear hF2 hI2)
    | (go_at_call 62; refine (datum_any _ q (z_drew HZ.out) i).mono ?_; rintro e w1 ⟨v1, rfl, hI1, hF1⟩; obtain ⟨f1, l1, rfl⟩ := hI1.func; have hk1 := keep4 hF1 (by assumption); have HF1 := Lib.hid ((MM.Far.refl [] W).drew.trans hF1 (by simp)); have HI1 := Lib.hid hI1; clear hF1 hI1))
  go_wp2
  exact fin_pl rfl rfl rfl HB3.out (HF.out.trans HF3.out (by simp)) (Nat.le_refl _) HI3.out
end
end EW
end Go.Proofs.YtaghlpolljaedaaGreat
/-
  Contracts of the code's plans that are functions called at once: what an or comes to, what a let* comes to. Conditions: sizes.
-/
namespace Go.Proofs.YtaghlpolljaedaaGreat
open Go.RowKit
namespace EW
open LX SX RW6 EX
open RX (Nd)
section
variable (w : World) {Z : List Nat} (q : Nat) (hz : ∀ b ∈ Z, b < w.heap.size)
include hz
/-- One name, and one part: each in a row that lies there, or is just made. -/
theorem call_A (a : Int) (s : ByteArray) {nb : Nat} {f2 : FuncId} {l2 : Array Value} {vb : Value} {b p : Pt} (hn : MM.Row w nb 9 [.string s]) (hnz : nb ∉ Z) (hb : Is w Z q vb b) (h2 : Is w Z q (.func (.func f2) #[] l2) p) :
    Calls Tryz.prog 89 #[.int .i64 a, .slice (some ⟨nb, 0, none⟩) 1 1, vb, .slice (some ⟨w.heap.size, 0, none⟩) 1 1] (w.alloc (.cells #[.func (.func f2) #[] l2] 75)) (PlanQ (w.alloc (.cells #[.func (.func f2) #[] l2] 75)) Z q (call a [s] b [p])) :=
  call_any _ q (z_alloc hz) a (names := [s]) (Sl.row (hn.alloc _) hnz (by show (1 : Nat) ≤ maxLen; unfold maxLen; omega)) (hb.alloc _) (sl_new 75 [.func (.func f2) #[] l2] rfl rfl (by unfold maxLen; omega) hz) (Iss.cons (h2.alloc _) (Iss.nil _ _ _)) (by omega)
theorem call_B (a : Int) (s : ByteArray) {f2 : FuncId} {l2 : Array Value} {vb : Value} {b p : Pt} (hb : Is w Z q vb b) (h2 : Is w Z q (.func (.func f2) #[] l2) p) :
    Calls Tryz.prog 89 #[.int .i64 a, .slice (some ⟨w.heap.size, 0, none⟩) 1 1, vb, .slice (some ⟨w.heap.size + 1, 0, none⟩) 1 1] ((w.alloc (.cells #[.string s] 9)).alloc (.cells #[.func (.func f2) #[] l2] 75)) (PlanQ ((w.alloc (.cells #[.string s] 9)).alloc (.cells #[.func (.func f2) #[] l2] 75)) Z q (call a [s] b [p])) := by
  have := call_A (w.alloc (.cells #[.string s] 9)) q (z_alloc hz) a s (f2 := f2) (l2 := l2) (MM.Row.new w 9 [.string s]) (fun hm => Nat.lt_irrefl _ (hz _ hm)) (hb.alloc _) (h2.alloc _)
  rw [sz_alloc] at this
  exact this
theorem call_C (a : Int) (s : ByteArray) {f2 : FuncId} {l2 : Array Value} {vb : Value} {b p : Pt} (hb : Is w Z q vb b) (h2 : Is w Z q (.func (.func f2) #[] l2) p) :
    Calls Tryz.prog 89 #[.int .i64 a, .slice (some ⟨w.heap.size + 1, 0, none⟩) 1 1, vb, .slice (some ⟨w.heap.size, 0, none⟩) 1 1] ((w.alloc (.cells #[.func (.func f2) #[] l2] 75)).alloc (.cells #[.string s] 9)) (PlanQ ((w.alloc (.cells #[.func (.func f2) #[] l2] 75)).alloc (.cells #[.string s] 9)) Z q (call a [s] b [p])) :=
  call_any _ q (z_alloc (z_alloc hz)) a (names := [s]) (sl_new 9 [.string s] (sz_alloc w _) rfl (by unfold maxLen; omega) (z_alloc hz)) ((hb.alloc _).alloc _) ((sl_new (n := 1) 75 [.func (.func f2) #[] l2] rfl rfl (by unfold maxLen; omega) hz).alloc _) (Iss.cons ((h2.alloc _).alloc _) (Iss.nil _ _ _)) (by omega)
set_option maxRecDepth 20000 in
set_option maxHeartbeats 4000000 in
theorem or1_call {bx ba bl : Nat} {a : Int} {v : Value} {i : Nat} {l : List Nat} (h1 : Bx w Z bx 44 (ptr q)) (h2 : Bx w Z ba 3 (num a)) (h3 : Bx w Z bl 23 v) (h4 : Sl w Z v (ints (i :: l))) :
    Calls Tryz.prog 95 #[ptr bx, ptr ba, ptr bl] w (PlanQ w Z q (call a [EX.blank] (.orb a l) [.dat i])) := by
  obtain ⟨W, hW⟩ : ∃ W, (w.alloc zP).alloc (.cells #[.func (.func 96) #[] #[ptr bx, ptr ba, ptr bl]] 74) = W := ⟨_, rfl⟩
  obtain ⟨k, hk⟩ : ∃ k, w.heap.size = k := ⟨_, rfl⟩
  have F0 : MM.Far [] w W := by rw [← hW]; exact ((MM.Far.refl [] w).alloc _).alloc _
  have HB : Hid (PlBox W k) := Lib.hid (by rw [← hW]; exact (PlBox.new hk).far ((MM.Far.refl [] _).alloc _) (by simp))
  have HZ : Hid (∀ x ∈ k :: Z, x < W.heap.size) := Lib.hid (by rw [← hW]; exact z_alloc (z_cons hk hz))
  have HF := Lib.hid F0
  have MZ : ∀ x ∈ k :: Z, x ∈ Z ∨ w.heap.size ≤ x := fun x hx => (List.mem_cons.1 hx).elim (fun e => .inr (by omega)) .inl
  have BO : Bx W (k :: Z) (k + 1) 74 (.func (.func 96) #[] #[ptr bx, ptr ba, ptr bl]) := Bx.cons (by rw [← hW]; exact bx_new _ _ (by simp only [sz_alloc, hk]) (z_alloc hz)) (by omega)
  have HO : Is W (k :: Z) q (.func (.func 96) #[] #[ptr bx, ptr ba, ptr bl]) (.or a l) := (Is.or (h1.more MZ) (h2.more MZ) (h3.more MZ) (h4.more MZ)).far F0 (by simp)
  have HBD : Hid (Is W (k :: Z) q (.func (.func 97) #[] #[ptr ba, ptr (k + 1)]) (.orb a l)) := Lib.hid (Is.orb ((h2.more MZ).far F0 (by simp)) BO HO)
  have g1 := (h1.far F0 (by simp)).at
  have g2 := (h2.far F0 (by simp)).at
  have g3 := (h3.far F0 (by simp)).at
  have hne1 : ¬ k = ba := by have := h2.lt; omega
  have hne2 : ¬ k = bx := by have := h1.lt; omega
  have hne3 : ¬ k = bl := by have := h3.lt; omega
  rw [int_head] at h4
  obtain ⟨g, o, c0, rfl, hc, hc1, hc2, hg, hgz, _⟩ := h4.cons
  obtain ⟨m0, hm0⟩ : ∃ m0, (ints l).length = m0 := ⟨_, rfl⟩
  rw [hm0] at h3 g3
  have g4 := far_cell F0 hc
  have hne4 : ¬ k = g := by omega
  have HK : Hid (∀ x ∈ k :: Z, ¬ x = W.heap.size ∧ x < W.heap.size) := Lib.hid (fun x hx => by have := HZ.out x hx; omega)
  have HCL := Lib.hid (MC.clone_any ⟨#[32]⟩ W.drew (show (1 : Nat) ≤ 140737488355328 by omega))
  clear h1 h2 h3 h4 hz F0 MZ hm0 hc hc1 hc2 hgz hg BO HO
  subst hW; subst hk
  unfold zP ptr num at *
  go_enter Tryz.func95, Tryz.ntmps95
  go_wp2
  generalize (w.alloc (.cells #[.bool false, .int .u8 0, .int .i64 0, .int .i64 0, .int .i64 0, .string ⟨#[]⟩, .slice none 0 0, .int .u64 0, .slice none 0 0, .slice none 0 0, .nilFunc] 78)).alloc (.cells #[.func (.func 96) #[] #[.pointer (some ⟨bx, 0, none⟩), .pointer (some ⟨ba, 0, none⟩), .pointer (some ⟨bl, 0, none⟩)]] 74) = W at *
  go_region_held3 (fun w' => w'.cell? ⟨ba, 0, none⟩ = some (.int .i64 a) ∧ w'.cell? ⟨bx, 0, none⟩ = some (.pointer (some ⟨q, 0, none⟩)) ∧ w'.cell? ⟨bl, 0, none⟩ = some (.slice (some ⟨g, o, none⟩) (m0 + 1) c0) ∧ w'.cell? ⟨g, o, none⟩ = some (.int .i64 i)) (first | (with_reducible assumption) | go_keep) (first
    | (go_at_call 65; refine HCL.out.mono ?_; rintro e w1 ⟨rfl, hF1⟩; have hk1 := keep4 hF1 (by assumption); have HF1 := Lib.hid ((MM.Far.refl [] W).drew.trans hF1 (by simp)); clear hF1)
    | (go_at_call 62; (with_reducible refine (datum_any _ q (z_far HZ.out HF1.out) i).mono ?_); rintro e w2 ⟨v2, rfl, hI2, hF2⟩; obtain ⟨f2, l2, rfl⟩ := hI2.func; have hk2 := keep4 hF2 (by assumption); have HF2 := Lib.hid (HF1.out.trans hF2 (by simp)); have HI2 := Lib.hid hI2; clear hF2 hI2)
    | (go_at_call 62; (with_reducible refine (datum_any _ q (z_alloc (z_far HZ.out HF1.out)) i).mono ?_); rintro e w2 ⟨v2, rfl, hI2, hF2⟩; obtain ⟨f2, l2, rfl⟩ := hI2.func; have hk2 := keep4 hF2 (by assumption); have HF2 := Lib.hid ((HF1.out.alloc _).trans hF2 (by simp)); have HN2 := Lib.hid ((MM.Row.new w1 9 [.string ⟨#[32]⟩]).far hF2 (by simp)); have HNZ := Lib.hid (fun hm => Nat.lt_irrefl _ (z_far HZ.out HF1.out w1.heap.size hm)); have HI2 := Lib.hid hI2; clear hF2 hI2)
    | (go_at_call 89; (with_reducible refine (call_A _ q (z_far HZ.out HF2.out) a _ HN2.out HNZ.out (HBD.out.far HF2.out (by simp)) HI2.out).mono ?_); rintro e w3 ⟨v3, rfl, hI3, hF3⟩; obtain ⟨bad, kind, at_, nn, s, A, m, c, A2, m2, c2, ins, rfl, hins⟩ := hI3.form; have hk3 := keep4 hF3 (by assumption); have HF3 := Lib.hid ((HF2.out.alloc _).trans hF3 (by simp)); have HI3 := Lib.hid hI3; have HB3 := Lib.hid (HB.out.far HF3.out (by simp)); clear hF3 hI3; obtain ⟨v0, v1, v2, v3, v4, v5, v6, v7, v8, v9, v10, y0, y1, y2, y3, y4, y5, y6, y7, y8, y9, y10, hfz⟩ := HB3.out.cells)
    | (go_at_call 89; (with_reducible refine (call_B _ q (z_far HZ.out HF2.out) a _ (HBD.out.far HF2.out (by simp)) HI2.out).mono ?_); rintro e w3 ⟨v3, rfl, hI3, hF3⟩; obtain ⟨bad, kind, at_, nn, s, A, m, c, A2, m2, c2, ins, rfl, hins⟩ := hI3.form; have hk3 := keep4 hF3 (by assumption); have HF3 := Lib.hid (((HF2.out.alloc _).alloc _).trans hF3 (by simp)); have HI3 := Lib.hid hI3; have HB3 := Lib.hid (HB.out.far HF3.out (by simp)); clear hF3 hI3; obtain ⟨v0, v1, v2, v3, v4, v5, v6, v7, v8, v9, v10, y0, y1, y2, y3, y4, y5, y6, y7, y8, y9, y10, hfz⟩ := HB3.out.cells)
    | (go_at_call 89; (with_reducible refine (call_C _ q (z_far HZ.out HF2.out) a _ (HBD.out.far HF2.out (by simp)) HI2.out).mono ?_); rintro e w3 ⟨v3, rfl, hI3, hF3⟩; obtain ⟨bad, kind, at_, nn, s, A, m, c, A2, m2, c2, ins, rfl, hins⟩ := hI3.form; have hk3 := keep4 hF3 (by assumption); have HF3 := Lib.hid (((HF2.out.alloc _).alloc _).trans hF3 (by simp)); have HI3 := Lib.hid hI3; have HB3 := Lib.hid (HB.out.far HF3.out (by simp)); clear hF3 hI3; obtain ⟨v0, v1, v2, v3, v4, v5, v6, v7, v8, v9, v10, y0, y1, y2, y3, y4, y5, y6, y7, y8, y9, y10, hfz⟩ := HB3.out.cells))
  all_goals
    go_wp2
    exact fin_pl rfl rfl rfl HB3.out (HF.out.trans HF3.out (by simp)) (Nat.le_refl _) HI3.out
end
end EW
end Go.Proofs.YtaghlpolljaedaaGreat
/-
  Contracts of the code's and, or: rows that are gone through one by one. Conditions: sizes.
-/
namespace Go.Proofs.YtaghlpolljaedaaGreat
open Go.RowKit
namespace EW
open LX SX RW6 EX
open RX (Nd)
def chainP (a n : Int) (l : List Nat) (pl : Pl) : Pl := match l with
  | [] => truth a n
  | [x] => .ins (.dat x)
  | _ => pl
def andM (a : Int) : List Nat → Pl
  | [] => truth a 1
  | i :: l => choosePl a (.dat i) (.and a l) (.tr a 0)
def orM (a : Int) : List Nat → Pl
  | [] => truth a 0
  | i :: l => call a [EX.blank] (.orb a l) [.dat i]
theorem chain_and (a : Int) (l : List Nat) : chainP a 1 l (andM a l) = andP a l := by
  match l with
  | [] => rfl
  | [_] => rfl
  | _ :: _ :: _ => rfl
theorem chain_or (a : Int) (l : List Nat) : chainP a 0 l (orM a l) = orP a l := by
  match l with
  | [] => rfl
  | [_] => rfl
  | _ :: _ :: _ => rfl
theorem is_tr {w : World} {Z : List Nat} {q : Nat} {v : Value} {a n : Int} (h : Is w Z q v (.tr a n)) : ∃ ba bn, v = .func (.func 100) #[] #[.pointer (some ⟨ba, 0, none⟩), .pointer (some ⟨bn, 0, none⟩)] ∧ Bx w Z ba 3 (num a) ∧ Bx w Z bn 3 (num n) := by
  cases h with
  | tr h1 h2 => exact ⟨_, _, rfl, h1, h2⟩
section
variable (w : World) {Z : List Nat} (q : Nat) (hz : ∀ b ∈ Z, b < w.heap.size)
include hz
set_option maxRecDepth 20000 in
set_option maxHeartbeats 4000000 in
theorem chain_any (a n : Int) {v : Value} {l : List Nat} (hl : Sl w Z v (ints l)) (mf : FuncId) (ml : Array Value) (pl : Pl) (hcf : ∀ W, (callFunc mf ml).run Tryz.prog W = .ok (.enter mf ml) W)
    (hmore : 2 ≤ l.length → ∀ x Z2, MM.Far [] w x → (∀ b ∈ Z2, b ∈ Z ∨ w.heap.size ≤ b) → (∀ b ∈ Z2, b < x.heap.size) → Calls Tryz.prog mf ml x (PlanQ x Z2 q pl)) :
    Calls Tryz.prog 92 #[ptr q, num a, v, num n, .func (.func mf) #[] ml] w (PlanQ w Z q (chainP a n l pl)) := by
  obtain ⟨W, hW⟩ : ∃ W, (w.alloc zP) = W := ⟨_, rfl⟩
  obtain ⟨k, hk⟩ : ∃ k, w.heap.size = k := ⟨_, rfl⟩
  have F0 : MM.Far [] w W := by rw [← hW]; exact ((MM.Far.refl [] w).alloc _)
  have HB : Hid (PlBox W k) := Lib.hid (by rw [← hW]; exact PlBox.new hk)
  have HZ : Hid (∀ x ∈ k :: Z, x < W.heap.size) := Lib.hid (by rw [← hW]; exact z_cons hk hz)
  have HF := Lib.hid F0
  have HK := Lib.hid hk
  have MZ : ∀ x ∈ k :: Z, x ∈ Z ∨ w.heap.size ≤ x := fun x hx => (List.mem_cons.1 hx).elim (fun e => .inr (by omega)) .inl
  match l, hl, hmore with
  | [], hl, hmore =>
    obtain ⟨A0, d0, rfl, _⟩ := hl.form
    have hlen : (ints ([] : List Nat)).length = 0 := rfl
    rw [hlen]
    have HC := Lib.hid (truth_any W q HZ.out a n)
    clear hl hmore hz F0 MZ hlen
    subst hW; subst hk
    unfold zP ptr num at *
    go_enter Tryz.func92, Tryz.ntmps92
    go_wp2_with (first
      | (go_at_call 63; refine HC.out.mono ?_; rintro e w1 ⟨v1, rfl, hI1, hF1⟩; obtain ⟨ba, bn, rfl, h1, h2⟩ := is_tr hI1; have HT := Lib.hid (tr_call w1 q h1 h2); have HF1 := Lib.hid hF1; clear hI1 h1 h2 hF1)
      | (go_at_call 100; refine HT.out.mono ?_; rintro e wp ⟨v, rfl, hI, hFp⟩; obtain ⟨bad, kind, at_, nn, s, A, m, c, A2, m2, c2, ins, rfl, hins⟩ := hI.form; have HFp := Lib.hid (MM.Far.trans (HF1.out) hFp (by simp)); have HBp := Lib.hid (HB.out.far HFp.out (by simp)); have HFq := Lib.hid (HF.out.trans HFp.out (by simp)); have HI := Lib.hid hI; clear hI; obtain ⟨v0, v1, v2, v3, v4, v5, v6, v7, v8, v9, v10, y0, y1, y2, y3, y4, y5, y6, y7, y8, y9, y10, hfz⟩ := HBp.out.cells))
    exact fin_pl rfl rfl rfl HBp.out HFq.out (Nat.le_refl _) HI.out
  | [x], hl, hmore =>
    rw [int_head] at hl
    obtain ⟨g, o, c0, rfl, hc, _⟩ := hl.cons
    have g1 := far_cell F0 hc
    have hlen : (ints ([] : List Nat)).length = 0 := rfl
    rw [hlen]
    have HC := Lib.hid (datum_any W q HZ.out x)
    clear hl hmore hz F0 MZ hc hlen
    subst hW; subst hk
    unfold zP ptr num at *
    go_enter Tryz.func92, Tryz.ntmps92
    go_wp2_with (go_at_call 62; refine HC.out.mono ?_; rintro e w1 ⟨v1, rfl, hI1, hF1⟩; obtain ⟨f1, l1, rfl⟩ := hI1.func; have HB1 := Lib.hid (HB.out.far hF1 (by simp)); have HF1 := Lib.hid (HF.out.trans hF1 (by simp)); have HI1 := Lib.hid hI1; clear hF1 hI1; obtain ⟨v0, v1, v2, v3, v4, v5, v6, v7, v8, v9, v10, y0, y1, y2, y3, y4, y5, y6, y7, y8, y9, y10, hfz⟩ := HB1.out.cells)
    exact fin_pl rfl rfl rfl HB1.out HF1.out (Nat.le_refl _) ⟨_, rfl, HI1.out⟩
  | x :: y :: t, hl, hmore =>
    obtain ⟨A0, d0, rfl, _⟩ := hl.form
    obtain ⟨m0, hm0⟩ : ∃ m0, (ints (x :: y :: t)).length = m0 := ⟨_, rfl⟩
    have hm2 : 2 ≤ m0 := by rw [← hm0, ints_len]; simp
    rw [hm0]
    have h0 : ¬ (m0 : Int) = 0 := by omega
    have h1 : ¬ (m0 : Int) = 1 := by omega
    have HC := Lib.hid (hmore (by simp) W (k :: Z) F0 MZ HZ.out)
    clear hl hmore hz F0 MZ hm0
    subst hW; subst hk
    unfold zP ptr num at *
    show Calls _ _ _ _ (PlanQ w Z q pl)
    go_enter Tryz.func92, Tryz.ntmps92
    go_wp2_with (fail)
    refine HC.out.mono ?_
    rintro e wp ⟨v, rfl, hI, hFp⟩
    obtain ⟨bad, kind, at_, nn, s, A, m, c, A2, m2, c2, ins, rfl, hins⟩ := hI.form
    have HBp := Lib.hid (HB.out.far hFp (by simp))
    have HFq := Lib.hid (HF.out.trans hFp (by simp))
    have HI := Lib.hid hI
    clear hI hFp
    obtain ⟨v0, v1, v2, v3, v4, v5, v6, v7, v8, v9, v10, y0, y1, y2, y3, y4, y5, y6, y7, y8, y9, y10, hfz⟩ := HBp.out.cells
    go_wp2
    exact fin_pl rfl rfl rfl HBp.out HFq.out (Nat.le_refl _) HI.out
set_option maxRecDepth 20000 in
set_option maxHeartbeats 4000000 in
theorem and_any (a : Int) {v : Value} {l : List Nat} (hl : Sl w Z v (ints l)) : Calls Tryz.prog 57 #[ptr q, num a, v] w (PlanQ w Z q (andP a l)) := by
  obtain ⟨A0, d0, rfl, _⟩ := hl.form
  obtain ⟨m0, hm0⟩ : ∃ m0, (ints l).length = m0 := ⟨_, rfl⟩
  rw [hm0] at hl ⊢
  obtain ⟨W, hW⟩ : ∃ W, ((((w.alloc (.cells #[ptr q] 44)).alloc (.cells #[num a] 3)).alloc (.cells #[.slice A0 m0 d0] 23)).alloc zP) = W := ⟨_, rfl⟩
  obtain ⟨k, hk⟩ : ∃ k, w.heap.size = k := ⟨_, rfl⟩
  have F0 : MM.Far [] w W := by rw [← hW]; exact (((((MM.Far.refl [] w).alloc _).alloc _).alloc _).alloc _)
  have B1 : Bx W ((k + 1 + 1 + 1) :: Z) k 44 (ptr q) := Bx.cons (by rw [← hW]; exact ((((bx_new 44 (ptr q) hk hz).alloc _).alloc _).alloc _)) (by omega)
  have B2 : Bx W ((k + 1 + 1 + 1) :: Z) (k + 1) 3 (num a) := Bx.cons (by rw [← hW]; exact (((bx_new 3 (num a) (by simp only [sz_alloc, hk]) (z_alloc hz)).alloc _).alloc _)) (by omega)
  have B3 : Bx W ((k + 1 + 1 + 1) :: Z) (k + 1 + 1) 23 (.slice A0 m0 d0) := Bx.cons (by rw [← hW]; exact ((bx_new 23 (.slice A0 m0 d0) (by simp only [sz_alloc, hk]) (z_alloc (z_alloc hz))).alloc _)) (by omega)
  have HB : Hid (PlBox W (k + 1 + 1 + 1)) := Lib.hid (by rw [← hW]; exact PlBox.new (by simp only [sz_alloc, hk]))
  have HZ : Hid (∀ x ∈ (k + 1 + 1 + 1) :: Z, x < W.heap.size) := Lib.hid (by rw [← hW]; exact z_cons (by simp only [sz_alloc, hk]) (z_alloc (z_alloc (z_alloc hz))))
  have HF := Lib.hid F0
  have HK := Lib.hid hk
  have MZ : ∀ x ∈ (k + 1 + 1 + 1) :: Z, x ∈ Z ∨ w.heap.size ≤ x := fun x hx => (List.mem_cons.1 hx).elim (fun e => .inr (by omega)) .inl
  have hlW := (hl.more MZ).far F0 (by simp)
  have HC := Lib.hid (chain_any W q HZ.out a 1 hlW 93 #[ptr k, ptr (k + 1), ptr (k + 1 + 1)] (andM a l) (fun W => by kernel_rfl) (fun h2 x Z2 f hZ2 hz2 => by
    obtain ⟨i, l', rfl⟩ := one (r := l) (by omega)
    exact and1_call x q hz2 ((B1.more hZ2).far f (by simp)) ((B2.more hZ2).far f (by simp)) ((B3.more hZ2).far f (by simp)) ((hlW.more hZ2).far f (by simp))))
  rw [chain_and] at HC
  have x1 := B1.at
  have x2 := B2.at
  have x3 := B3.at
  clear hl hz F0 MZ hlW B1 B2 B3 hm0
  subst hW; subst hk
  unfold zP ptr num at *
  go_enter Tryz.func57, Tryz.ntmps57
  go_wp2_with (go_at_call 92; refine HC.out.mono ?_; rintro e wp ⟨v, rfl, hI, hFp⟩; obtain ⟨bad, kind, at_, nn, s, A, m, c, A2, m2, c2, ins, rfl, hins⟩ := hI.form; have HFp := Lib.hid (MM.Far.trans (MM.Far.refl [] _) hFp (by simp)); have HBp := Lib.hid (HB.out.far HFp.out (by simp)); have HFq := Lib.hid (HF.out.trans HFp.out (by simp)); have HI := Lib.hid hI; clear hI; obtain ⟨v0, v1, v2, v3, v4, v5, v6, v7, v8, v9, v10, y0, y1, y2, y3, y4, y5, y6, y7, y8, y9, y10, hfz⟩ := HBp.out.cells)
  exact fin_pl rfl rfl rfl HBp.out HFq.out (by omega) HI.out
set_option maxRecDepth 20000 in
set_option maxHeartbeats 4000000 in
theorem or_any (a : Int) {v : Value} {l : List Nat} (hl : Sl w Z v (ints l)) : Calls Tryz.prog 59 #[ptr q, num a, v] w (PlanQ w Z q (orP a l)) := by
  obtain ⟨A0, d0, rfl, _⟩ := hl.form
  obtain ⟨m0, hm0⟩ : ∃ m0, (ints l).length = m0 := ⟨_, rfl⟩
  rw [hm0] at hl ⊢
  obtain ⟨W, hW⟩ : ∃ W, ((((w.alloc (.cells #[ptr q] 44)).alloc (.cells #[num a] 3)).alloc (.cells #[.slice A0 m0 d0] 23)).alloc zP) = W := ⟨_, rfl⟩
  obtain ⟨k, hk⟩ : ∃ k, w.heap.size = k := ⟨_, rfl⟩
  have F0 : MM.Far [] w W := by rw [← hW]; exact (((((MM.Far.refl [] w).alloc _).alloc _).alloc _).alloc _)
  have B1 : Bx W ((k + 1 + 1 + 1) :: Z) k 44 (ptr q) := Bx.cons (by rw [← hW]; exact ((((bx_new 44 (ptr q) hk hz).alloc _).alloc _).alloc _)) (by omega)
  have B2 : Bx W ((k + 1 + 1 + 1) :: Z) (k + 1) 3 (num a) := Bx.cons (by rw [← hW]; exact (((bx_new 3 (num a) (by simp only [sz_alloc, hk]) (z_alloc hz)).alloc _).alloc _)) (by omega)
  have B3 : Bx W ((k + 1 + 1 + 1) :: Z) (k + 1 + 1) 23 (.slice A0 m0 d0) := Bx.cons (by rw [← hW]; exact ((bx_new 23 (.slice A0 m0 d0) (by simp only [sz_alloc, hk]) (z_alloc (z_alloc hz))).alloc _)) (by omega)
  have HB : Hid (PlBox W (k + 1 + 1 + 1)) := Lib.hid (by rw [← hW]; exact PlBox.new (by simp only [sz_alloc, hk]))
  have HZ : Hid (∀ x ∈ (k + 1 + 1 + 1) :: Z, x < W.heap.size) := Lib.hid (by rw [← hW]; exact z_cons (by simp only [sz_alloc, hk]) (z_alloc (z_alloc (z_alloc hz))))
  have HF := Lib.hid F0
  have HK := Lib.hid hk
  have MZ : ∀ x ∈ (k + 1 + 1 + 1) :: Z, x ∈ Z ∨ w.heap.size ≤ x := fun x hx => (List.mem_cons.1 hx).elim (fun e => .inr (by omega)) .inl
  have hlW := (hl.more MZ).far F0 (by simp)
  have HC := Lib.hid (chain_any W q HZ.out a 0 hlW 95 #[ptr k, ptr (k + 1), ptr (k + 1 + 1)] (orM a l) (fun W => by kernel_rfl) (fun h2 x Z2 f hZ2 hz2 => by
    obtain ⟨i, l', rfl⟩ := one (r := l) (by omega)
    exact or1_call x q hz2 ((B1.more hZ2).far f (by simp)) ((B2.more hZ2).far f (by simp)) ((B3.more hZ2).far f (by simp)) ((hlW.more hZ2).far f (by simp))))
  rw [chain_or] at HC
  have x1 := B1.at
  have x2 := B2.at
  have x3 := B3.at
  clear hl hz F0 MZ hlW B1 B2 B3 hm0
  subst hW; subst hk
  unfold zP ptr num at *
  go_enter Tryz.func59, Tryz.ntmps59
  go_wp2_with (go_at_call 92; refine HC.out.mono ?_; rintro e wp ⟨v, rfl, hI, hFp⟩; obtain ⟨bad, kind, at_, nn, s, A, m, c, A2, m2, c2, ins, rfl, hins⟩ := hI.form; have HFp := Lib.hid (MM.Far.trans (MM.Far.refl [] _) hFp (by simp)); have HBp := Lib.hid (HB.out.far HFp.out (by simp)); have HFq := Lib.hid (HF.out.trans HFp.out (by simp)); have HI := Lib.hid hI; clear hI; obtain ⟨v0, v1, v2, v3, v4, v5, v6, v7, v8, v9, v10, y0, y1, y2, y3, y4, y5, y6, y7, y8, y9, y10, hfz⟩ := HBp.out.cells)
  exact fin_pl rfl rfl rfl HBp.out HFq.out (by omega) HI.out
set_option maxRecDepth 20000 in
set_option maxHeartbeats 4000000 in
theorem tail_and {bx ba bl : Nat} {a : Int} {v : Value} {i : Nat} {l : List Nat} (h1 : Bx w Z bx 44 (ptr q)) (h2 : Bx w Z ba 3 (num a)) (h3 : Bx w Z bl 23 v) (h4 : Sl w Z v (ints (i :: l)))
    (HC0 : ∀ (x : World) (Z2 : List Nat) (v' : Value), MM.Far [] w x → (∀ b ∈ Z2, b ∈ Z ∨ w.heap.size ≤ b) → (∀ b ∈ Z2, b < x.heap.size) → Sl x Z2 v' (ints l) → Calls Tryz.prog 57 #[ptr q, num a, v'] x (PlanQ x Z2 q (andP a l))) :
    Calls Tryz.prog 94 #[ptr bx, ptr ba, ptr bl] w (PlanQ w Z q (andP a l)) := by
  obtain ⟨W, hW⟩ : ∃ W, (w.alloc zP) = W := ⟨_, rfl⟩
  obtain ⟨k, hk⟩ : ∃ k, w.heap.size = k := ⟨_, rfl⟩
  have F0 : MM.Far [] w W := by rw [← hW]; exact ((MM.Far.refl [] w).alloc _)
  have HB : Hid (PlBox W k) := Lib.hid (by rw [← hW]; exact PlBox.new hk)
  have HZ : Hid (∀ x ∈ k :: Z, x < W.heap.size) := Lib.hid (by rw [← hW]; exact z_cons hk hz)
  have HF := Lib.hid F0
  have HK := Lib.hid hk
  have MZ : ∀ x ∈ k :: Z, x ∈ Z ∨ w.heap.size ≤ x := fun x hx => (List.mem_cons.1 hx).elim (fun e => .inr (by omega)) .inl
  have g1 := (h1.far F0 (by simp)).at
  have g2 := (h2.far F0 (by simp)).at
  have g3 := (h3.far F0 (by simp)).at
  have hne1 : ¬ k = ba := by have := h2.lt; omega
  have hne2 : ¬ k = bx := by have := h1.lt; omega
  have hne3 : ¬ k = bl := by have := h3.lt; omega
  have h4b := (h4.more MZ).far F0.drew (by simp)
  rw [int_head] at h4b
  obtain ⟨g, o, c0, rfl, hc, hc1, hc2, hg, hgz, hS⟩ := h4b.cons
  obtain ⟨m0, hm0⟩ : ∃ m0, (ints l).length = m0 := ⟨_, rfl⟩
  rw [hm0] at h3 g3 hS
  have hsl := fun X => slice_ints g o m0 c0 X
  obtain ⟨A', hA'⟩ : ∃ A', (if c0 = 1 then some (⟨g, o, none⟩ : Addr) else some ⟨g, o + 1, none⟩) = A' := ⟨_, rfl⟩
  rw [hA'] at hS hsl
  have HC := Lib.hid (HC0 W.drew (k :: Z) (.slice A' m0 (c0 - 1)) F0.drew MZ (z_drew HZ.out) hS)
  clear h1 h2 h3 h4 h4b hz F0 MZ hm0 hc hc1 hc2 hgz hg hS hA' HC0
  subst hW; subst hk
  unfold zP ptr num at *
  go_enter Tryz.func94, Tryz.ntmps94
  go_wp2
  generalize w.alloc (.cells #[.bool false, .int .u8 0, .int .i64 0, .int .i64 0, .int .i64 0, .string ⟨#[]⟩, .slice none 0 0, .int .u64 0, .slice none 0 0, .slice none 0 0, .nilFunc] 78) = W at *
  go_region_held3 (fun w' => w'.cell? ⟨ba, 0, none⟩ = some (.int .i64 a) ∧ w'.cell? ⟨bx, 0, none⟩ = some (.pointer (some ⟨q, 0, none⟩)) ∧ w'.cell? ⟨bl, 0, none⟩ = some (.slice (some ⟨g, o, none⟩) (m0 + 1) c0)) (first | (with_reducible assumption) | go_keep) (first
    | (go_at_call 57; (with_reducible refine HC.out.mono ?_); rintro e w3 ⟨v3, rfl, hI3, hF3⟩; obtain ⟨bad, kind, at_, nn, s, A, m, c, A2, m2, c2, ins, rfl, hins⟩ := hI3.form; have hk3 := keep3 hF3 (by assumption); have HF3 := Lib.hid (MM.Far.trans ((MM.Far.refl [] W).drew) hF3 (by simp)); have HI3 := Lib.hid hI3; have HB3 := Lib.hid (HB.out.far HF3.out (by simp)); clear hF3 hI3; obtain ⟨v0, v1, v2, v3, v4, v5, v6, v7, v8, v9, v10, y0, y1, y2, y3, y4, y5, y6, y7, y8, y9, y10, hfz⟩ := HB3.out.cells))
  go_wp2
  exact fin_pl rfl rfl rfl HB3.out (HF.out.trans HF3.out (by simp)) (Nat.le_refl _) HI3.out
set_option maxRecDepth 20000 in
set_option maxHeartbeats 4000000 in
theorem tail_or {bx ba bl : Nat} {a : Int} {v : Value} {i : Nat} {l : List Nat} (h1 : Bx w Z bx 44 (ptr q)) (h2 : Bx w Z ba 3 (num a)) (h3 : Bx w Z bl 23 v) (h4 : Sl w Z v (ints (i :: l)))
    (HC0 : ∀ (x : World) (Z2 : List Nat) (v' : Value), MM.Far [] w x → (∀ b ∈ Z2, b ∈ Z ∨ w.heap.size ≤ b) → (∀ b ∈ Z2, b < x.heap.size) → Sl x Z2 v' (ints l) → Calls Tryz.prog 59 #[ptr q, num a, v'] x (PlanQ x Z2 q (orP a l))) :
    Calls Tryz.prog 96 #[ptr bx, ptr ba, ptr bl] w (PlanQ w Z q (orP a l)) := by
  obtain ⟨W, hW⟩ : ∃ W, (w.alloc zP) = W := ⟨_, rfl⟩
  obtain ⟨k, hk⟩ : ∃ k, w.heap.size = k := ⟨_, rfl⟩
  have F0 : MM.Far [] w W := by rw [← hW]; exact ((MM.Far.refl [] w).alloc _)
  have HB : Hid (PlBox W k) := Lib.hid (by rw [← hW]; exact PlBox.new hk)
  have HZ : Hid (∀ x ∈ k :: Z, x < W.heap.size) := Lib.hid (by rw [← hW]; exact z_cons hk hz)
  have HF := Lib.hid F0
  have HK := Lib.hid hk
  have MZ : ∀ x ∈ k :: Z, x ∈ Z ∨ w.heap.size ≤ x := fun x hx => (List.mem_cons.1 hx).elim (fun e => .inr (by omega)) .inl
  have g1 := (h1.far F0 (by simp)).at
  have g2 := (h2.far F0 (by simp)).at
  have g3 := (h3.far F0 (by simp)).at
  have hne1 : ¬ k = ba := by have := h2.lt; omega
  have hne2 : ¬ k = bx := by have := h1.lt; omega
  have hne3 : ¬ k = bl := by have := h3.lt; omega
  have h4b := (h4.more MZ).far F0.drew (by simp)
  rw [int_head] at h4b
  obtain ⟨g, o, c0, rfl, hc, hc1, hc2, hg, hgz, hS⟩ := h4b.cons
  obtain ⟨m0, hm0⟩ : ∃ m0, (ints l).length = m0 := ⟨_, rfl⟩
  rw [hm0] at h3 g3 hS
  have hsl := fun X => slice_ints g o m0 c0 X
  obtain ⟨A', hA'⟩ : ∃ A', (if c0 = 1 then some (⟨g, o, none⟩ : Addr) else some ⟨g, o + 1, none⟩) = A' := ⟨_, rfl⟩
  rw [hA'] at hS hsl
  have HC := Lib.hid (HC0 W.drew (k :: Z) (.slice A' m0 (c0 - 1)) F0.drew MZ (z_drew HZ.out) hS)
  clear h1 h2 h3 h4 h4b hz F0 MZ hm0 hc hc1 hc2 hgz hg hS hA' HC0
  subst hW; subst hk
  unfold zP ptr num at *
  go_enter Tryz.func96, Tryz.ntmps96
  go_wp2
  generalize w.alloc (.cells #[.bool false, .int .u8 0, .int .i64 0, .int .i64 0, .int .i64 0, .string ⟨#[]⟩, .slice none 0 0, .int .u64 0, .slice none 0 0, .slice none 0 0, .nilFunc] 78) = W at *
  go_region_held3 (fun w' => w'.cell? ⟨ba, 0, none⟩ = some (.int .i64 a) ∧ w'.cell? ⟨bx, 0, none⟩ = some (.pointer (some ⟨q, 0, none⟩)) ∧ w'.cell? ⟨bl, 0, none⟩ = some (.slice (some ⟨g, o, none⟩) (m0 + 1) c0)) (first | (with_reducible assumption) | go_keep) (first
    | (go_at_call 59; (with_reducible refine HC.out.mono ?_); rintro e w3 ⟨v3, rfl, hI3, hF3⟩; obtain ⟨bad, kind, at_, nn, s, A, m, c, A2, m2, c2, ins, rfl, hins⟩ := hI3.form; have hk3 := keep3 hF3 (by assumption); have HF3 := Lib.hid (MM.Far.trans ((MM.Far.refl [] W).drew) hF3 (by simp)); have HI3 := Lib.hid hI3; have HB3 := Lib.hid (HB.out.far HF3.out (by simp)); clear hF3 hI3; obtain ⟨v0, v1, v2, v3, v4, v5, v6, v7, v8, v9, v10, y0, y1, y2, y3, y4, y5, y6, y7, y8, y9, y10, hfz⟩ := HB3.out.cells))
  go_wp2
  exact fin_pl rfl rfl rfl HB3.out (HF.out.trans HF3.out (by simp)) (Nat.le_refl _) HI3.out
end
end EW
end Go.Proofs.YtaghlpolljaedaaGreat
/-
  Contract of the code's let*: functions within functions. Conditions: sizes.
-/
namespace Go.Proofs.YtaghlpolljaedaaGreat
open Go.RowKit
namespace EW
open LX SX RW6 EX
open RX (Nd)
theorem keep5 {w w' : World} {p1 p2 p3 p4 p5 : Addr} {v1 v2 v3 v4 v5 : Value} (f : MM.Far [] w w') (h : w.cell? p1 = some v1 ∧ w.cell? p2 = some v2 ∧ w.cell? p3 = some v3 ∧ w.cell? p4 = some v4 ∧ w.cell? p5 = some v5) : w'.cell? p1 = some v1 ∧ w'.cell? p2 = some v2 ∧ w'.cell? p3 = some v3 ∧ w'.cell? p4 = some v4 ∧ w'.cell? p5 = some v5 := ⟨far_cell f h.1, keep4 f h.2⟩
theorem keep6 {w w' : World} {p0 p1 p2 p3 p4 p5 : Addr} {v0 v1 v2 v3 v4 v5 : Value} (f : MM.Far [] w w') (h : w.cell? p0 = some v0 ∧ w.cell? p1 = some v1 ∧ w.cell? p2 = some v2 ∧ w.cell? p3 = some v3 ∧ w.cell? p4 = some v4 ∧ w.cell? p5 = some v5) : w'.cell? p0 = some v0 ∧ w'.cell? p1 = some v1 ∧ w'.cell? p2 = some v2 ∧ w'.cell? p3 = some v3 ∧ w'.cell? p4 = some v4 ∧ w'.cell? p5 = some v5 := ⟨far_cell f h.1, keep5 f h.2⟩
section
variable (w : World) {Z : List Nat} (q : Nat)
set_option maxRecDepth 20000 in
set_option maxHeartbeats 4000000 in
theorem nested_nil (a : Int) {vn vv vb : Value} {vs : List Nat} {b : Pt} (hn : Sl w Z vn (strs [])) (hv : Sl w Z vv (ints vs)) (hb : Is w Z q vb b) :
    Calls Tryz.prog 90 #[ptr q, num a, vn, vv, vb] w (PlanQ w Z q (.ins b)) := by
  obtain ⟨fb, lb, rfl⟩ := hb.func
  obtain ⟨A0, d0, rfl, _⟩ := hn.form
  obtain ⟨A1, d1, rfl, _⟩ := hv.form
  have hlen : (strs ([] : List ByteArray)).length = 0 := rfl
  rw [hlen]
  obtain ⟨m1, hm1⟩ : ∃ m1, (ints vs).length = m1 := ⟨_, rfl⟩
  rw [hm1]
  have HBD := Lib.hid (fun (w' : World) (f : MM.Far [] w w') => hb.far f (by simp))
  clear hn hv hb hlen hm1
  unfold ptr num at *
  go_enter Tryz.func90, Tryz.ntmps90
  go_wp2
  exact bodyPost_ret (v := plV false (frm 0 0 0) (.slice none 0 0) (.slice none 0 0) (.func (.func fb) #[] lb)) (by simp [plV, frm, LX.emp, results, Tryz.results90, go_sem]) rfl ⟨_, rfl, ⟨_, rfl, HBD.out _ (((((((MM.Far.refl [] w).alloc _).alloc _).alloc _).alloc _).alloc _).alloc _)⟩, ((((((MM.Far.refl [] w).alloc _).alloc _).alloc _).alloc _).alloc _).alloc _⟩
variable (hz : ∀ b ∈ Z, b < w.heap.size)
include hz
set_option maxRecDepth 20000 in
set_option maxHeartbeats 4000000 in
theorem nested_cons (a : Int) {vn vv vb : Value} {s : ByteArray} {names : List ByteArray} {i : Nat} {vs : List Nat} {b : Pt} (hn : Sl w Z vn (strs (s :: names))) (hv : Sl w Z vv (ints (i :: vs))) (hb : Is w Z q vb b) :
    Calls Tryz.prog 90 #[ptr q, num a, vn, vv, vb] w (PlanQ w Z q (call a [s] (.nested a names vs b) [.dat i])) := by
  obtain ⟨fb, lb, rfl⟩ := hb.func
  have hn2 := hn
  have hv2 := hv
  rw [str_head] at hn2
  rw [int_head] at hv2
  obtain ⟨g, o, d0, rfl, hc, hc1, hc2, hg, hgz, _⟩ := hn2.cons
  obtain ⟨g1, o1, d1, rfl, hd, hd1, hd2, hg1, hgz1, _⟩ := hv2.cons
  obtain ⟨m0, hm0⟩ : ∃ m0, (strs names).length = m0 := ⟨_, rfl⟩
  obtain ⟨m1, hm1⟩ : ∃ m1, (ints vs).length = m1 := ⟨_, rfl⟩
  rw [hm0] at hn ⊢
  rw [hm1] at hv ⊢
  obtain ⟨W, hW⟩ : ∃ W, ((((((w.alloc (.cells #[ptr q] 44)).alloc (.cells #[num a] 3)).alloc (.cells #[.slice (some ⟨g, o, none⟩) (m0 + 1) d0] 37)).alloc (.cells #[.slice (some ⟨g1, o1, none⟩) (m1 + 1) d1] 23)).alloc (.cells #[.func (.func fb) #[] lb] 75)).alloc zP) = W := ⟨_, rfl⟩
  obtain ⟨k, hk⟩ : ∃ k, w.heap.size = k := ⟨_, rfl⟩
  have F0 : MM.Far [] w W := by rw [← hW]; exact (((((((MM.Far.refl [] w).alloc _).alloc _).alloc _).alloc _).alloc _).alloc _)
  have B1 : Bx W ((k + 1 + 1 + 1 + 1 + 1) :: Z) k 44 (ptr q) := Bx.cons (by rw [← hW]; exact ((((((bx_new 44 (ptr q) hk hz).alloc _).alloc _).alloc _).alloc _).alloc _)) (by omega)
  have B2 : Bx W ((k + 1 + 1 + 1 + 1 + 1) :: Z) (k + 1) 3 (num a) := Bx.cons (by rw [← hW]; exact (((((bx_new 3 (num a) (by simp only [sz_alloc, hk]) (z_alloc hz)).alloc _).alloc _).alloc _).alloc _)) (by omega)
  have B3 : Bx W ((k + 1 + 1 + 1 + 1 + 1) :: Z) (k + 1 + 1) 37 (.slice (some ⟨g, o, none⟩) (m0 + 1) d0) := Bx.cons (by rw [← hW]; exact ((((bx_new 37 (.slice (some ⟨g, o, none⟩) (m0 + 1) d0) (by simp only [sz_alloc, hk]) (z_alloc (z_alloc hz))).alloc _).alloc _).alloc _)) (by omega)
  have B4 : Bx W ((k + 1 + 1 + 1 + 1 + 1) :: Z) (k + 1 + 1 + 1) 23 (.slice (some ⟨g1, o1, none⟩) (m1 + 1) d1) := Bx.cons (by rw [← hW]; exact (((bx_new 23 (.slice (some ⟨g1, o1, none⟩) (m1 + 1) d1) (by simp only [sz_alloc, hk]) (z_alloc (z_alloc (z_alloc hz)))).alloc _).alloc _)) (by omega)
  have B5 : Bx W ((k + 1 + 1 + 1 + 1 + 1) :: Z) (k + 1 + 1 + 1 + 1) 75 (.func (.func fb) #[] lb) := Bx.cons (by rw [← hW]; exact ((bx_new 75 (.func (.func fb) #[] lb) (by simp only [sz_alloc, hk]) (z_alloc (z_alloc (z_alloc (z_alloc hz))))).alloc _)) (by omega)
  have HB : Hid (PlBox W (k + 1 + 1 + 1 + 1 + 1)) := Lib.hid (by rw [← hW]; exact PlBox.new (by simp only [sz_alloc, hk]))
  have HZ : Hid (∀ x ∈ (k + 1 + 1 + 1 + 1 + 1) :: Z, x < W.heap.size) := Lib.hid (by rw [← hW]; exact z_cons (by simp only [sz_alloc, hk]) (z_alloc (z_alloc (z_alloc (z_alloc (z_alloc hz))))))
  have HF := Lib.hid F0
  have HK := Lib.hid hk
  have MZ : ∀ x ∈ (k + 1 + 1 + 1 + 1 + 1) :: Z, x ∈ Z ∨ w.heap.size ≤ x := fun x hx => (List.mem_cons.1 hx).elim (fun e => .inr (by omega)) .inl
  have HBD : Hid (Is W ((k + 1 + 1 + 1 + 1 + 1) :: Z) q (.func (.func 108) #[] #[ptr k, ptr (k + 1), ptr (k + 1 + 1), ptr (k + 1 + 1 + 1), ptr (k + 1 + 1 + 1 + 1)]) (.nested a names vs b)) := Lib.hid (Is.nested B1 B2 B3 ((hn.more MZ).far F0 (by simp)) B4 ((hv.more MZ).far F0 (by simp)) B5 ((hb.more MZ).far F0 (by simp)))
  have x1 := B1.at
  have x2 := B2.at
  have x3 := B3.at
  have x4 := B4.at
  have x6 := far_cell F0 hc
  have x7 := far_cell F0 hd
  have hne1 : ¬ (k + 1 + 1 + 1 + 1 + 1) = g := by omega
  have hne2 : ¬ (k + 1 + 1 + 1 + 1 + 1) = g1 := by omega
  have e0 : ¬ (k + 1 + 1 + 1 + 1 + 1) = k := by omega
  have e1 : ¬ (k + 1 + 1 + 1 + 1) = k := by omega
  have e2 : ¬ (k + 1 + 1 + 1) = k := by omega
  have e3 : ¬ (k + 1 + 1) = k := by omega
  clear hn hv hn2 hv2 hb hz F0 MZ B1 B2 B3 B4 B5 hm0 hm1 hc hd hc1 hc2 hd1 hd2 hg hgz hg1 hgz1
  subst hW; subst hk
  unfold zP ptr num at *
  go_enter Tryz.func90, Tryz.ntmps90
  go_wp2
  generalize (((((w.alloc (.cells #[.pointer (some ⟨q, 0, none⟩)] 44)).alloc (.cells #[.int .i64 a] 3)).alloc (.cells #[.slice (some ⟨g, o, none⟩) (m0 + 1) d0] 37)).alloc (.cells #[.slice (some ⟨g1, o1, none⟩) (m1 + 1) d1] 23)).alloc (.cells #[.func (.func fb) #[] lb] 75)).alloc (.cells #[.bool false, .int .u8 0, .int .i64 0, .int .i64 0, .int .i64 0, .string ⟨#[]⟩, .slice none 0 0, .int .u64 0, .slice none 0 0, .slice none 0 0, .nilFunc] 78) = W at *
  go_region_held3 (fun w' => w'.cell? ⟨w.heap.size, 0, none⟩ = some (.pointer (some ⟨q, 0, none⟩)) ∧ w'.cell? ⟨w.heap.size + 1, 0, none⟩ = some (.int .i64 a) ∧ w'.cell? ⟨w.heap.size + 1 + 1, 0, none⟩ = some (.slice (some ⟨g, o, none⟩) (m0 + 1) d0) ∧ w'.cell? ⟨w.heap.size + 1 + 1 + 1, 0, none⟩ = some (.slice (some ⟨g1, o1, none⟩) (m1 + 1) d1) ∧ w'.cell? ⟨g, o, none⟩ = some (.string s) ∧ w'.cell? ⟨g1, o1, none⟩ = some (.int .i64 i)) (first | (with_reducible assumption) | go_keep) (first
    | (go_at_call 62; (with_reducible refine (datum_any _ q (z_drew HZ.out) i).mono ?_); rintro e w2 ⟨v2, rfl, hI2, hF2⟩; obtain ⟨f2, l2, rfl⟩ := hI2.func; have hk2 := keep6 hF2 (by assumption); have HF2 := Lib.hid ((MM.Far.refl [] W).drew.trans hF2 (by simp)); have HI2 := Lib.hid hI2; clear hF2 hI2)
    | (go_at_call 62; (with_reducible refine (datum_any _ q (z_drew (z_alloc HZ.out)) i).mono ?_); rintro e w2 ⟨v2, rfl, hI2, hF2⟩; obtain ⟨f2, l2, rfl⟩ := hI2.func; have hk2 := keep6 hF2 (by assumption); have HF2 := Lib.hid ((((MM.Far.refl [] W).alloc _).drew).trans hF2 (by simp)); have HN2 : Hid (MM.Row w2 W.heap.size 9 [.string s]) := Lib.hid ((MM.Row.new W 9 [.string s]).drew.far hF2 (by simp)); have HNZ : Hid (W.heap.size ∉ (w.heap.size + 1 + 1 + 1 + 1 + 1) :: Z) := Lib.hid (fun hm => Nat.lt_irrefl _ (HZ.out W.heap.size hm)); have HI2 := Lib.hid hI2; clear hF2 hI2)
    | (go_at_call 89; (with_reducible refine (call_A _ q (z_far HZ.out HF2.out) a _ HN2.out HNZ.out (HBD.out.far HF2.out (by simp)) HI2.out).mono ?_); rintro e w3 ⟨v3, rfl, hI3, hF3⟩; obtain ⟨bad, kind, at_, nn, s', A, m, c, A2, m2, c2, ins, rfl, hins⟩ := hI3.form; have hk3 := keep6 hF3 (by assumption); have HF3 := Lib.hid (MM.Far.trans (HF2.out.alloc _) hF3 (by simp)); have HI3 := Lib.hid hI3; have HB3 := Lib.hid (HB.out.far HF3.out (by simp)); clear hF3 hI3; obtain ⟨v0, v1, v2, v3, v4, v5, v6, v7, v8, v9, v10, y0, y1, y2, y3, y4, y5, y6, y7, y8, y9, y10, hfz⟩ := HB3.out.cells)
    | (go_at_call 89; (with_reducible refine (call_B _ q (z_far HZ.out HF2.out) a _ (HBD.out.far HF2.out (by simp)) HI2.out).mono ?_); rintro e w3 ⟨v3, rfl, hI3, hF3⟩; obtain ⟨bad, kind, at_, nn, s', A, m, c, A2, m2, c2, ins, rfl, hins⟩ := hI3.form; have hk3 := keep6 hF3 (by assumption); have HF3 := Lib.hid (MM.Far.trans ((HF2.out.alloc _).alloc _) hF3 (by simp)); have HI3 := Lib.hid hI3; have HB3 := Lib.hid (HB.out.far HF3.out (by simp)); clear hF3 hI3; obtain ⟨v0, v1, v2, v3, v4, v5, v6, v7, v8, v9, v10, y0, y1, y2, y3, y4, y5, y6, y7, y8, y9, y10, hfz⟩ := HB3.out.cells)
    | (go_at_call 89; (with_reducible refine (call_C _ q (z_far HZ.out HF2.out) a _ (HBD.out.far HF2.out (by simp)) HI2.out).mono ?_); rintro e w3 ⟨v3, rfl, hI3, hF3⟩; obtain ⟨bad, kind, at_, nn, s', A, m, c, A2, m2, c2, ins, rfl, hins⟩ := hI3.form; have hk3 := keep6 hF3 (by assumption); have HF3 := Lib.hid (MM.Far.trans ((HF2.out.alloc _).alloc _) hF3 (by simp)); have HI3 := Lib.hid hI3; have HB3 := Lib.hid (HB.out.far HF3.out (by simp)); clear hF3 hI3; obtain ⟨v0, v1, v2, v3, v4, v5, v6, v7, v8, v9, v10, y0, y1, y2, y3, y4, y5, y6, y7, y8, y9, y10, hfz⟩ := HB3.out.cells))
  all_goals
    go_wp2
    exact fin_pl rfl rfl rfl HB3.out (HF.out.trans HF3.out (by simp)) (by omega) HI3.out
theorem nested_any (a : Int) {vn vv vb : Value} {names : List ByteArray} {vs : List Nat} {b : Pt} (hn : Sl w Z vn (strs names)) (hv : Sl w Z vv (ints vs)) (hb : Is w Z q vb b) (hl : names.length = vs.length) :
    Calls Tryz.prog 90 #[ptr q, num a, vn, vv, vb] w (PlanQ w Z q (nestedP a names vs b)) := by
  cases names with
  | nil => exact nested_nil w q a hn hv hb
  | cons s names => cases vs with
    | nil => exact absurd hl (by simp)
    | cons i vs => exact nested_cons w q hz a hn hv hb
set_option maxRecDepth 20000 in
set_option maxHeartbeats 4000000 in
theorem nested_call {bx ba bn bv bb : Nat} {a : Int} {vn vv vb : Value} {s : ByteArray} {i : Nat} {names : List ByteArray} {l : List Nat} {b : Pt} (h1 : Bx w Z bx 44 (ptr q)) (h2 : Bx w Z ba 3 (num a))
      (h3 : Bx w Z bn 37 vn) (h4 : Sl w Z vn (strs (s :: names))) (h5 : Bx w Z bv 23 vv) (h6 : Sl w Z vv (ints (i :: l))) (h7 : Bx w Z bb 75 vb) (h8 : Is w Z q vb b) (hl : names.length = l.length) :
    Calls Tryz.prog 108 #[ptr bx, ptr ba, ptr bn, ptr bv, ptr bb] w (PlanQ w Z q (nestedP a names l b)) := by
  obtain ⟨W, hW⟩ : ∃ W, (w.alloc zP) = W := ⟨_, rfl⟩
  obtain ⟨k, hk⟩ : ∃ k, w.heap.size = k := ⟨_, rfl⟩
  have F0 : MM.Far [] w W := by rw [← hW]; exact ((MM.Far.refl [] w).alloc _)
  have HB : Hid (PlBox W k) := Lib.hid (by rw [← hW]; exact PlBox.new hk)
  have HZ : Hid (∀ x ∈ k :: Z, x < W.heap.size) := Lib.hid (by rw [← hW]; exact z_cons hk hz)
  have HF := Lib.hid F0
  have HK := Lib.hid hk
  have MZ : ∀ x ∈ k :: Z, x ∈ Z ∨ w.heap.size ≤ x := fun x hx => (List.mem_cons.1 hx).elim (fun e => .inr (by omega)) .inl
  obtain ⟨fb, lb, rfl⟩ := h8.func
  have g1' := (h1.far F0 (by simp)).at
  have g2' := (h2.far F0 (by simp)).at
  have g3' := (h3.far F0 (by simp)).at
  have g5' := (h5.far F0 (by simp)).at
  have g7' := (h7.far F0 (by simp)).at
  have hne1 : ¬ k = bx := by have := h1.lt; omega
  have hne2 : ¬ k = ba := by have := h2.lt; omega
  have hne3 : ¬ k = bn := by have := h3.lt; omega
  have hne5 : ¬ k = bv := by have := h5.lt; omega
  have hne7 : ¬ k = bb := by have := h7.lt; omega
  have hn2 := (h4.more MZ).far F0.drew (by simp)
  have hv2 := (h6.more MZ).far F0.drew (by simp)
  rw [str_head] at hn2
  rw [int_head] at hv2
  obtain ⟨g, o, d0, rfl, hc, hc1, hc2, hg, hgz, hS⟩ := hn2.cons
  obtain ⟨g1, o1, d1, rfl, hd, hd1, hd2, hg1, hgz1, hT⟩ := hv2.cons
  obtain ⟨m0, hm0⟩ : ∃ m0, (strs names).length = m0 := ⟨_, rfl⟩
  obtain ⟨m1, hm1⟩ : ∃ m1, (ints l).length = m1 := ⟨_, rfl⟩
  rw [hm0] at g3' hS
  rw [hm1] at g5' hT
  have hs1 := fun X => slice_strs g o m0 d0 X
  have hs2 := fun X => slice_ints g1 o1 m1 d1 X
  obtain ⟨A', hA'⟩ : ∃ A', (if d0 = 1 then some (⟨g, o, none⟩ : Addr) else some ⟨g, o + 1, none⟩) = A' := ⟨_, rfl⟩
  obtain ⟨A1', hA1'⟩ : ∃ A', (if d1 = 1 then some (⟨g1, o1, none⟩ : Addr) else some ⟨g1, o1 + 1, none⟩) = A' := ⟨_, rfl⟩
  rw [hA'] at hS hs1
  rw [hA1'] at hT hs2
  have HC := Lib.hid (nested_any W.drew q (z_drew HZ.out) a hS hT ((h8.more MZ).far F0.drew (by simp)) hl)
  clear h1 h2 h3 h4 h5 h6 h7 h8 hn2 hv2 hz F0 MZ hm0 hm1 hc hd hc1 hc2 hd1 hd2 hg hgz hg1 hgz1 hS hT hA' hA1' hl
  subst hW; subst hk
  unfold zP ptr num at *
  go_enter Tryz.func108, Tryz.ntmps108
  go_wp2
  generalize w.alloc (.cells #[.bool false, .int .u8 0, .int .i64 0, .int .i64 0, .int .i64 0, .string ⟨#[]⟩, .slice none 0 0, .int .u64 0, .slice none 0 0, .slice none 0 0, .nilFunc] 78) = W at *
  go_region_held3 (fun w' => w'.cell? ⟨bx, 0, none⟩ = some (.pointer (some ⟨q, 0, none⟩)) ∧ w'.cell? ⟨ba, 0, none⟩ = some (.int .i64 a) ∧ w'.cell? ⟨bn, 0, none⟩ = some (.slice (some ⟨g, o, none⟩) (m0 + 1) d0) ∧ w'.cell? ⟨bv, 0, none⟩ = some (.slice (some ⟨g1, o1, none⟩) (m1 + 1) d1) ∧ w'.cell? ⟨bb, 0, none⟩ = some (.func (.func fb) #[] lb)) (first | (with_reducible assumption) | go_keep) (first
    | (go_at_call 90; (with_reducible refine HC.out.mono ?_); rintro e w3 ⟨v3, rfl, hI3, hF3⟩; obtain ⟨bad, kind, at_, nn, s, A, m, c, A2, m2, c2, ins, rfl, hins⟩ := hI3.form; have hk3 := keep5 hF3 (by assumption); have HF3 := Lib.hid (MM.Far.trans ((MM.Far.refl [] W).drew) hF3 (by simp)); have HI3 := Lib.hid hI3; have HB3 := Lib.hid (HB.out.far HF3.out (by simp)); clear hF3 hI3; obtain ⟨v0, v1, v2, v3, v4, v5, v6, v7, v8, v9, v10, y0, y1, y2, y3, y4, y5, y6, y7, y8, y9, y10, hfz⟩ := HB3.out.cells))
  go_wp2
  exact fin_pl rfl rfl rfl HB3.out (HF.out.trans HF3.out (by simp)) (Nat.le_refl _) HI3.out
end
end EW
end Go.Proofs.YtaghlpolljaedaaGreat
