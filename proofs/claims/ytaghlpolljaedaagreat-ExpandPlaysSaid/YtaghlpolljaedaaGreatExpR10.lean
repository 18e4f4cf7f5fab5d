/-
  Layer 8's document: lambda, let. Conditions: form, of parts of less weight.
-/
import Derived.Test.YtaghlpolljaedaaGreatExpR9
import Derived.Deep.RegionHeld3
namespace Go.Proofs.YtaghlpolljaedaaGreat
open Go.RowKit
set_option linter.unusedVariables false
namespace EW
open LX SX RW6 EX
open RX (Nd)
section
variable {w0 w w1 : World} {E : List Nat} {q : Nat} {DA : Option Addr} {n c : Nat} {ns : List Nd} {dv fv : Value} {X : Except Int (List Fm)} {B : Nat}
set_option maxHeartbeats 4000000 in
set_option maxRecDepth 20000 in
theorem slambda_any {N : Nat} (HF : FormC w0 q DA n c ns N) (D : Dta w0 DA n ns) (h : Stx w0 w E q (.slice DA n c) fv X B) {i : Nat} (hi : i < n) (hN : 16 * T ns i ≤ N + 9) (hB : B + (16 * T ns i - 8) ≤ 200000) {x : Nat} {r : List Nat} (hl : (ndAt ns i).l = x :: r) :
    Calls Tryz.prog 69 #[ptr q, num i] w (OutQ w0 w E q (.slice DA n c) fv (bnd X (onPl (exq ns) (atL 2 (ndAt ns i).at_ r (lambdaP ns (ndAt ns i).at_ r)))) (B + (16 * T ns i - 8))) := by
  obtain ⟨b, o, rfl⟩ := h.dsome D hi
  have HW := Lib.hid (fun (w' : World) (f : MM.Far [] w w') => swrong_any (h.to f) D.nd D.len hi (D.at0 i))
  obtain ⟨LA, lc, hb, d0, d1, d2, d3, d4, hSl⟩ := h.datc D hi
  have c0 := h.q0
  have hi0 : (0 : Int) ≤ (i : Int) := by omega
  have hi1 : (i : Int) < (n : Int) := by omega
  have hT := T_all D.ok i
  have hT1 := T_pos ns i
  have hx := D.kid (i := i) (p := x) (by rw [hl]; exact List.mem_cons_self ..)
  have hall := fun p (hp : p ∈ r) => D.kid (i := i) (p := p) (by rw [hl]; exact List.mem_cons_of_mem _ hp)
  have hkT := fun p (hp : p ∈ r) => T_kid D.ok (i := i) (p := p) (by rw [hl]; exact List.mem_cons_of_mem _ hp)
  have hkl := D.few i
  rw [hl, wts_cons] at hT
  rw [hl] at hSl d4 hkl
  obtain ⟨g, oo, cc, e, hc1, hc2, hcs, -, hs2⟩ := Sl.open_ (u := num x) (vs := ints r) hSl
  injection e with e1 e2 e3
  subst e1 e3
  have F0 := (MM.Far.refl [] w).alloc (.cells #[.int .u8 (ndAt ns i).kind, .int .i64 (ndAt ns i).at_, .int .i64 (ndAt ns i).n, .string (ndAt ns i).s, .slice (some ⟨g, oo, none⟩) (x :: r).length lc] 53)
  generalize (ndAt ns i).kind = kd at *
  generalize (ndAt ns i).s = sd at *
  generalize (ndAt ns i).n = nd at *
  generalize (ndAt ns i).at_ = a at *
  generalize hm : (x :: r).length = m at *
  have hmr : r.length + 1 = m := by rw [← hm]; rfl
  by_cases hlt : r.length < 2
  · have hE : atL 2 a r (lambdaP ns a r) = .bad a := by unfold atL; rw [if_pos hlt]
    have h3 : (m : Int) < 3 := by omega
    have HC := Lib.hid (HW.out _ F0)
    rw [hE]
    have HF0 := Lib.hid F0
    clear HF D h hl hT hx hall hkT hSl hcs hs2 hE hm hmr hlt F0 HW e2
    unfold ptr num at *
    go_enter Tryz.func69, Tryz.ntmps69
    go_wp2_with (first
      | (go_at_call 33; (with_reducible refine HC.out.mono ?_); rintro e w1 hQ; have HQ := Lib.hid (hQ.from (Fr.quiet HF0.out)); obtain ⟨k, fv1, he, -⟩ := hQ; (replace he : e = .returned (.int .i64 ((k : Nat) : Int)) := he); subst he))
    go_ret
    exact HQ.out.mono (by omega)
  · obtain ⟨y, t, rfl⟩ := one (r := r) (by omega)
    have hy := hall y (List.mem_cons_self ..)
    have hyT := hkT y (List.mem_cons_self ..)
    have hyk := D.few y
    obtain ⟨LB, lb, -, g0, g1, g2, g3, g4, hSy⟩ := h.datc D hy
    have hy0 : (0 : Int) ≤ (y : Int) := by omega
    have hy1 : (y : Int) < (n : Int) := by omega
    have x1 := hcs 1 (num y) rfl
    have hst := hs2 (num y) (ints t) rfl
    have htl : (ints t).length + 2 = m := by rw [ints_len]; simpa using hmr
    have hsl2 := fun X' => slice_ints2 g oo (ints t).length lc m htl X'
    generalize (if lc = 2 then some (⟨g, oo, none⟩ : Addr) else some ⟨g, oo + 2, none⟩) = SA at hsl2 hst
    generalize lc - 2 = sc at hsl2 hst
    have h3 : ¬ (m : Int) < 3 := by rw [List.length_cons] at hlt; rw [ints_len] at htl; omega
    have h1m : (1 : Int) < (m : Int) := by omega
    have hE : atL 2 a (y :: t) (lambdaP ns a (y :: t)) = match namesOf ns (ndAt ns y).l with
        | none => .bad a
        | some names => if (ndAt ns y).kind = 4 then function a names (body a t) else .bad a := by
      unfold atL; rw [if_neg hlt]; rfl
    have HL0 := Lib.hid (slist_at (h.to F0) D hy 0 0 rfl (by omega))
    have HNM := Lib.hid (fun (w2 : World) (f : MM.Far [] w w2) => snames_any (h.to f) D (hSy.far f (by simp)) rfl (fun p hp => D.kid hp))
    have HFN := Lib.hid (fun (w2 : World) (f : MM.Far [] w w2) (NA : Option Addr) (np nc : Nat) (names : List ByteArray) (hn : Sl w2 (E ++ Zx q fv) (.slice NA np nc) (strs names)) =>
      sfn_any HF (h.to f) D.ok a hn (hst.far f (by simp)) (by rw [ints_len]) (by rw [List.length_cons] at hmr; rw [ints_len]; omega) (fun p hp => ⟨hall p (List.mem_cons_of_mem _ hp), by have := hkT p (List.mem_cons_of_mem _ hp); omega⟩) (by rw [sumT_wts]; rw [wts_cons] at hT; have := T_pos ns y; omega))
    have HB2 : Hid (B + sumT ns t + 2 ≤ B + (16 * T ns i - 8)) := Lib.hid (by rw [sumT_wts]; rw [wts_cons] at hT; have := T_pos ns y; omega)
    have HBX : Hid (MM.Row (w.alloc (.cells #[.int .u8 kd, .int .i64 a, .int .i64 nd, .string sd, .slice (some ⟨g, oo, none⟩) m lc] 53)) w.heap.size 53 [.int .u8 kd, .int .i64 a, .int .i64 nd, .string sd, .slice (some ⟨g, oo, none⟩) m lc]) := Lib.hid (MM.Row.new w _ _)
    have HBZ : Hid (w.heap.size ∉ Zx q fv) := Lib.hid (fun hm => by have := h.low.2.1 _ hm; omega)
    have HF0 := Lib.hid F0
    have HOKN := Lib.hid D.ok
    have v0 := far_cell F0 c0
    have v4 := HBX.out.at (i := 4) rfl
    have v1 := HBX.out.at (i := 1) rfl
    have vx := far_cell F0 x1
    have h3d : decide ((m : Int) < 3) = false := by rw [decide_eq_false_iff_not]; exact h3
    rw [hE]
    by_cases hk4 : (ndAt ns y).kind = 4
    · have h8 : decide ((ndAt ns y).kind = 4 ∧ 0 ≤ (ndAt ns y).l.length) = true := decide_eq_true ⟨hk4, Nat.zero_le _⟩
      rw [h8] at HL0
      simp only [hk4, if_true]
      clear h8
      have vg := far_cell F0 g4
      have HC1 := Lib.hid (HNM.out _ F0.drew)
      clear HF D h hl hT hx hall hkT hSl hcs hs2 hE hm hmr hlt F0 hst hSy htl hyT e2 g0 g1 g2 g3 hk4 hyk
      generalize (ndAt ns y).l = ly at *
      generalize ly.length = my at *
      cases hnm : namesOf ns ly with
      | none =>
        rw [hnm] at HC1
        simp only []
        clear HFN hnm HNM
        unfold ptr num at *
        go_enter Tryz.func69, Tryz.ntmps69
        go_wp2_with (first
          | (go_at_call 102; (with_reducible refine HL0.out.mono ?_); rintro e w1 ⟨rfl, rfl⟩))
        generalize w.alloc (.cells #[.int .u8 kd, .int .i64 a, .int .i64 nd, .string sd, .slice (some ⟨g, oo, none⟩) m lc] 53) = W at *
        go_region_held3 (fun w' => w'.cell? ⟨q, 0, none⟩ = some (.slice (some ⟨b, o, none⟩) n c) ∧ w'.cell? ⟨w.heap.size, 4, none⟩ = some (.slice (some ⟨g, oo, none⟩) m lc) ∧ w'.cell? ⟨g, oo + 1, none⟩ = some (.int .i64 (y : Nat)) ∧ w'.cell? ⟨b, o + y * 5 + 4, none⟩ = some (.slice LB my lb)) (first | (with_reducible assumption) | go_keep) (first
          | (go_at_call 103; (with_reducible refine HC1.out.mono ?_); rintro e w2 ⟨hQ, hF2⟩; obtain rfl : e = .returned (.tuple #[.slice none 0 0, .bool false]) := hQ; have hk := keep4 hF2 (by assumption); have HF2 := Lib.hid ((HF0.out.drew).trans hF2 (by simp)); have HC := Lib.hid (HW.out _ HF2.out); clear hF2))
        go_wp2_with (first
          | (go_at_call 33; (with_reducible refine HC.out.mono ?_); rintro e w3 hQ; have HQ := Lib.hid (hQ.from (Fr.quiet HF2.out)); obtain ⟨k, fv1, he, -⟩ := hQ; (replace he : e = .returned (.int .i64 ((k : Nat) : Int)) := he); subst he))
        go_ret
        exact HQ.out.mono (by omega)
      | some names =>
        rw [hnm] at HC1
        simp only []
        clear hnm HNM
        have hEX : Hid (onPl (exq ns) (function a names (body a t)) = exq ns (.fn a names (body a t))) := Lib.hid (by funext st; rw [exq_eq HOKN.out]; rfl)
        unfold ptr num at *
        go_enter Tryz.func69, Tryz.ntmps69
        go_wp2_with (first
          | (go_at_call 102; (with_reducible refine HL0.out.mono ?_); rintro e w1 ⟨rfl, rfl⟩))
        generalize w.alloc (.cells #[.int .u8 kd, .int .i64 a, .int .i64 nd, .string sd, .slice (some ⟨g, oo, none⟩) m lc] 53) = W at *
        go_region_held3 (fun w' => w'.cell? ⟨q, 0, none⟩ = some (.slice (some ⟨b, o, none⟩) n c) ∧ w'.cell? ⟨w.heap.size, 4, none⟩ = some (.slice (some ⟨g, oo, none⟩) m lc) ∧ w'.cell? ⟨g, oo + 1, none⟩ = some (.int .i64 (y : Nat)) ∧ w'.cell? ⟨b, o + y * 5 + 4, none⟩ = some (.slice LB my lb)) (first | (with_reducible assumption) | go_keep) (first
          | (go_at_call 103; (with_reducible refine HC1.out.mono ?_); rintro e w2 ⟨⟨nv, rfl, hnv⟩, hF2⟩; obtain ⟨NA, nc, rfl, -, -⟩ := hnv.form; have hk := keep4 hF2 (by assumption); have HF2 := Lib.hid ((HF0.out.drew).trans hF2 (by simp)); have HC := Lib.hid (HFN.out _ HF2.out.drew _ _ _ _ (hnv.far (MM.Far.refl [] w2).drew (by simp))); have HBX2 := Lib.hid (HBX.out.drew.far hF2 (by simp)).drew; have u1 := HBX2.out.at (i := 1) rfl; have u4 := HBX2.out.at (i := 4) rfl; clear hF2 hnv))
        go_wp2_with (fail)
        go_region_held3 (fun w' => w'.cell? ⟨w.heap.size, 1, none⟩ = some (.int .i64 a) ∧ w'.cell? ⟨w.heap.size, 4, none⟩ = some (.slice (some ⟨g, oo, none⟩) m lc)) (first | (with_reducible assumption) | go_keep) (first
          | (go_at_call 104; (with_reducible refine HC.out.mono ?_); rintro e w3 hQ; have HQ := Lib.hid (hQ.from (Fr.quiet HF2.out.drew)); obtain ⟨k, fv1, he, hFr, -⟩ := hQ; (replace he : e = .returned (.int .i64 ((k : Nat) : Int)) := he); subst he; have HBX3 := Lib.hid (HBX2.out.far hFr.far HBZ.out); have hk : w3.cell? ⟨w.heap.size, 1, none⟩ = some (.int .i64 a) ∧ w3.cell? ⟨w.heap.size, 4, none⟩ = some (.slice (some ⟨g, oo, none⟩) m lc) := ⟨HBX3.out.at (i := 1) rfl, HBX3.out.at (i := 4) rfl⟩; clear hFr))
        go_wp2
        go_ret
        have hh := HQ.out
        rw [← hEX.out] at hh
        exact hh.mono HB2.out
    · have h8 : decide ((ndAt ns y).kind = 4 ∧ 0 ≤ (ndAt ns y).l.length) = false := decide_eq_false (fun e => hk4 e.1)
      rw [h8] at HL0
      have hE2 : (match namesOf ns (ndAt ns y).l with
        | none => Pl.bad a
        | some names => if (ndAt ns y).kind = 4 then function a names (body a t) else .bad a) = .bad a := by
        cases namesOf ns (ndAt ns y).l with
        | none => rfl
        | some names => simp only []; rw [if_neg hk4]
      rw [hE2]
      have HC := Lib.hid (HW.out _ HF0.out)
      clear h8 hE2 hk4 HF D h hl hT hx hall hkT hSl hcs hs2 hE hm hmr hlt F0 hst hSy htl hyT e2 g0 g1 g2 g3 HNM HFN
      unfold ptr num at *
      go_enter Tryz.func69, Tryz.ntmps69
      go_wp2_with (first
        | (go_at_call 102; (with_reducible refine HL0.out.mono ?_); rintro e w1 ⟨rfl, rfl⟩)
        | (go_at_call 33; (with_reducible refine HC.out.mono ?_); rintro e w1 hQ; have HQ := Lib.hid (hQ.from (Fr.quiet HF0.out)); obtain ⟨k, fv1, he, -⟩ := hQ; (replace he : e = .returned (.int .i64 ((k : Nat) : Int)) := he); subst he))
      go_ret
      exact HQ.out.mono (by omega)
end
end EW
end Go.Proofs.YtaghlpolljaedaaGreat
