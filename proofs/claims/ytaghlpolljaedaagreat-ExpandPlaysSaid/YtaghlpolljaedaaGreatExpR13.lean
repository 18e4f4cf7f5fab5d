/-
  Layer 8's document: let*. Conditions: form, of parts of less weight.
-/
import Derived.Test.YtaghlpolljaedaaGreatExpR12
namespace Go.Proofs.YtaghlpolljaedaaGreat
open Go.RowKit
set_option linter.unusedVariables false
namespace EW
open LX SX RW6 EX
open RX (Nd)
section
variable {w0 w w1 : World} {E : List Nat} {q : Nat} {b o : Nat} {n c : Nat} {ns : List Nd} {dv fv : Value} {X : Except Int (List Fm)} {B : Nat}
/-- The same behind a draw, the rows made in either order. -/
theorem sput_fn1d {p : Pt} {v : Nat} (hok : Ok ns) (h : Stx w0 w E q dv fv (fst' (bnd X (exq ns p))) B) (hk : ∀ st k, bnd X (exq ns p) = .ok (st, k) → v = k) (hB : B ≤ 200000) (a : Int) (s : ByteArray) :
    Calls Tryz.prog 31 #[ptr q, .agg #[.int .u8 6, .int .i64 a, .int .i64 0, .int .i64 0, .string ⟨#[]⟩, .slice (some ⟨w.heap.size, 0, none⟩) 1 1, .int .u64 0, .slice (some ⟨w.heap.size + 1, 0, none⟩) 1 1]]
      ((w.alloc (.cells #[.string s] 9)).alloc (.cells #[.int .i64 ((v : Nat) : Int)] 3)).drew (OutQ w0 w E q dv fv (bnd X (exq ns (.fn a [s] p))) (B + 1)) :=
  (sput_fn1 hok (h.to (MM.Far.refl [] w).drew) hk hB a s rfl rfl).mono fun e w1 hQ => hQ.from (Fr.quiet (MM.Far.refl [] w).drew)
theorem sput_fn2d {p : Pt} {v : Nat} (hok : Ok ns) (h : Stx w0 w E q dv fv (fst' (bnd X (exq ns p))) B) (hk : ∀ st k, bnd X (exq ns p) = .ok (st, k) → v = k) (hB : B ≤ 200000) (a : Int) (s : ByteArray) :
    Calls Tryz.prog 31 #[ptr q, .agg #[.int .u8 6, .int .i64 a, .int .i64 0, .int .i64 0, .string ⟨#[]⟩, .slice (some ⟨w.heap.size + 1, 0, none⟩) 1 1, .int .u64 0, .slice (some ⟨w.heap.size, 0, none⟩) 1 1]]
      ((w.alloc (.cells #[.int .i64 ((v : Nat) : Int)] 3)).alloc (.cells #[.string s] 9)).drew (OutQ w0 w E q dv fv (bnd X (exq ns (.fn a [s] p))) (B + 1)) :=
  (sput_fn2 hok (h.to (MM.Far.refl [] w).drew) hk hB a s rfl rfl).mono fun e w1 hQ => hQ.from (Fr.quiet (MM.Far.refl [] w).drew)
set_option maxHeartbeats 4000000 in
set_option maxRecDepth 20000 in
theorem sstars_any {N : Nat} (HF : FormC w0 q (some ⟨b, o, none⟩) n c ns N) (D : Dta w0 (some ⟨b, o, none⟩) n ns) (a : Int) {t : List Nat} {TA : Option Addr} {tm tc : Nat} (htm : t.length = tm) (ht5 : tm ≤ 100000) (htin : ∀ i ∈ t, i < n ∧ 16 * T ns i - 8 ≤ N) :
    ∀ (bs vs : List Nat) (w : World) (fv : Value) (X : Except Int (List Fm)) (B : Nat) (PA : Option Addr) (pm pc : Nat) (VA : Option Addr) (vm vc : Nat), bs.length = vs.length → Stx w0 w E q (.slice (some ⟨b, o, none⟩) n c) fv X B → Sl w (E ++ Zx q fv) (.slice PA pm pc) (ints bs) → Sl w (E ++ Zx q fv) (.slice VA vm vc) (ints vs) →
    Sl w (E ++ Zx q fv) (.slice TA tm tc) (ints t) → (∀ p ∈ bs, p < n) → (∀ p ∈ vs, p < n ∧ 16 * T ns p - 8 ≤ N) → B + sumT ns vs + sumT ns t + 1 ≤ 200000 →
    Calls Tryz.prog 75 #[ptr q, num a, .slice PA pm pc, .slice VA vm vc, .slice TA tm tc] w (OutQ w0 w E q (.slice (some ⟨b, o, none⟩) n c) fv (bnd X (exq ns (.nested a (bs.map fun i => (ndAt ns i).s) vs (body a t)))) (B + sumT ns vs + sumT ns t + 1)) := by
  intro bs
  induction bs with
  | nil =>
    intro vs w fv X B PA pm pc VA vm vc hlen h hp hv ht hpin hvin hB
    obtain rfl : vs = [] := List.eq_nil_of_length_eq_zero (by simpa using hlen.symm)
    have hm := hp.len
    rw [show (ints ([] : List Nat)).length = 0 from rfl] at hm
    subst hm
    have e : exq ns (.nested a (([] : List Nat).map fun i => (ndAt ns i).s) [] (body a t)) = exq ns (body a t) := funext fun st => by rw [exq_eq D.ok]; rfl
    rw [e]
    have HC := Lib.hid (sbody_any HF h D.ok a ht htm ht5 htin (by omega))
    clear h hp hv ht hpin hvin hlen e HF D
    unfold ptr num at *
    go_enter Tryz.func75, Tryz.ntmps75
    go_wp2_with (first
      | (go_at_call 71; (with_reducible refine HC.out.mono ?_); rintro e w1 hQ; have HQ := Lib.hid hQ; obtain ⟨k, fv1, he, -⟩ := hQ; (replace he : e = .returned (.int .i64 ((k : Nat) : Int)) := he); subst he))
    go_ret
    exact HQ.out.mono (by omega)
  | cons p bs ih =>
    intro vs w fv X B PA pm pc VA vm vc hlen h hp hv ht hpin hvin hB
    obtain ⟨v, vs, rfl⟩ := one (r := vs) (by rw [← hlen, List.length_cons]; omega)
    obtain ⟨pg, po, c0, e, hc1, hc2, hcs, hs1, -⟩ := Sl.open_ (u := num p) (vs := ints bs) hp
    injection e with e1 e2 e3
    subst e1 e3
    obtain ⟨vg, vo, c0, e, hc3, hc4, -, hs2, -⟩ := Sl.open_ (u := num v) (vs := ints vs) hv
    injection e with e1 e4 e3
    subst e1 e3
    have hpn := hpin p (List.mem_cons_self ..)
    have hvv := hvin v (List.mem_cons_self ..)
    have hsx : sumT ns (v :: vs) = 16 * T ns v + sumT ns vs := by simp [sumT]
    rw [hsx] at hB ⊢
    obtain ⟨pm', hpm'⟩ : ∃ m', (ints bs).length = m' := ⟨_, rfl⟩
    obtain ⟨vm', hvm'⟩ : ∃ m', (ints vs).length = m' := ⟨_, rfl⟩
    rw [hpm'] at e2 hs1
    rw [hvm'] at e4 hs2
    have h0 : ¬ (pm : Int) = 0 := by omega
    have x0 := h.q0
    have x5 := hcs 0 (num p) rfl
    rw [Nat.add_zero] at x5
    have h2 : (0 : Int) < (pm : Int) := by omega
    have h3 : (0 : Int) < (vm : Int) := by omega
    have h2n : 0 < pm := by omega
    have h0b : ((pm : Int) == 0) = false := by simpa using (show ¬ pm = 0 by omega)
    have hp0 : (0 : Int) ≤ (p : Int) := by omega
    have hp1 : (p : Int) < (n : Int) := by omega
    have hslp := fun X' => slice_ints1 pg po pm' pc pm e2.symm X'
    have hslv := fun X' => slice_ints1 vg vo vm' vc vm e4.symm X'
    generalize (if pc = 1 then some (⟨pg, po, none⟩ : Addr) else some ⟨pg, po + 1, none⟩) = SP at hslp hs1
    generalize (if vc = 1 then some (⟨vg, vo, none⟩ : Addr) else some ⟨vg, vo + 1, none⟩) = SV at hslv hs2
    generalize pc - 1 = sp at hslp hs1
    generalize vc - 1 = sv at hslv hs2
    have hlen' : bs.length = vs.length := by simpa using hlen
    have HC1 := Lib.hid (ih vs _ _ _ _ SP pm' sp SV vm' sv hlen' (h.to (MM.Far.refl [] w).drew) (hs1.far (MM.Far.refl [] w).drew (by simp)) (hs2.far (MM.Far.refl [] w).drew (by simp)) (ht.far (MM.Far.refl [] w).drew (by simp)) (fun i hi => hpin i (List.mem_cons_of_mem _ hi)) (fun i hi => hvin i (List.mem_cons_of_mem _ hi)) (by omega))
    have HEX : Hid (exq ns (.nested a ((p :: bs).map fun i => (ndAt ns i).s) (v :: vs) (body a t)) = _) := Lib.hid (funext fun st => exq_nest D.ok a (ndAt ns p).s (bs.map fun i => (ndAt ns i).s) v vs (body a t) st)
    rw [HEX.out]
    have HD := Lib.hid D
    have HOK := Lib.hid D.ok
    have HBB := Lib.hid hB
    have HTP := Lib.hid (T_pos ns v)
    have HPL := Lib.hid hp
    have HVL := Lib.hid hv
    have HVV := Lib.hid hvv
    have HPN := Lib.hid hpn
    have HFC := Lib.hid HF
    generalize hS : (ndAt ns p).s = s at *
    have HSS := Lib.hid hS
    clear h hp hv ht hpin hvin hlen hlen' hcs hs1 hs2 hsx hvv hpn ih hpm' hvm' e2 e4 HEX hc1 hc2 hc3 hc4 HF D hS htin
    unfold ptr num at *
    go_enter Tryz.func75, Tryz.ntmps75
    go_wp2
    go_region_held3 (fun w' => w'.cell? ⟨q, 0, none⟩ = some (.slice (some ⟨b, o, none⟩) n c) ∧ w'.cell? ⟨pg, po, none⟩ = some (.int .i64 (p : Nat))) (first | (with_reducible assumption) | go_keep) (first
      | (go_at_call 75; (with_reducible refine HC1.out.mono ?_); rintro e w1 ⟨k1, fv1, he, hF1, hS1, hk1⟩; (replace he : e = .returned (.int .i64 ((k1 : Nat) : Int)) := he); subst he
         have hF0 := (Fr.quiet (MM.Far.refl [] w).drew (q := q) (fv := fv)).trans hF1
         have y0 := hS1.q0
         obtain ⟨LB, lb, -, -, -, -, y3, -, -⟩ := hS1.datc HD.out HPN.out
         rw [HSS.out] at y3
         obtain ⟨g', o', c', e', -, -, hcs, -, -⟩ := Sl.open_ (u := .int .i64 (p : Nat)) (vs := ints bs) (hF0.sl HPL.out)
         injection e' with e1 e2 e3
         injection e1 with e1
         injection e1 with ea eb
         subst ea; subst eb
         have c5 := hcs 0 _ rfl
         rw [Nat.add_zero] at c5
         have hk : w1.cell? ⟨q, 0, none⟩ = some (.slice (some ⟨b, o, none⟩) n c) ∧ w1.cell? ⟨pg, po, none⟩ = some (.int .i64 (p : Nat)) := ⟨y0, c5⟩
         have HP1 := Lib.hid (sput_fn1d HOK.out hS1 hk1 (by have := HBB.out; have := HTP.out; omega) a s)
         have HP2 := Lib.hid (sput_fn2d HOK.out hS1 hk1 (by have := HBB.out; have := HTP.out; omega) a s)
         unfold ptr at HP1 HP2
         have HF1 := Lib.hid hF0
         clear hF1 hS1 hk1 hcs e2 e3 hF0))
    go_wp2
    go_region_held3 (fun w' => w'.cell? ⟨q, 0, none⟩ = some (.slice (some ⟨b, o, none⟩) n c) ∧ w'.cell? ⟨pg, po, none⟩ = some (.int .i64 (p : Nat)) ∧ w'.cell? ⟨b, o + p * 5 + 3, none⟩ = some (.string s)) (first | (with_reducible assumption) | go_keep) (first
      | (go_at_call 31; (with_reducible refine HP1.out.mono ?_); rintro e w2 ⟨k2, fv2, he, hF2, hS2, hk2⟩; (replace he : e = .returned (.int .i64 ((k2 : Nat) : Int)) := he); subst he
         have y0 := hS2.q0
         obtain ⟨LB2, lb2, -, -, -, -, y3, -, -⟩ := hS2.datc HD.out HPN.out
         rw [HSS.out] at y3
         have hF0 := HF1.out.trans hF2
         obtain ⟨g', o', c', e', -, -, hcs, -, -⟩ := Sl.open_ (u := .int .i64 (p : Nat)) (vs := ints bs) (hF0.sl HPL.out)
         injection e' with e1 e2 e3
         injection e1 with e1
         injection e1 with ea eb
         subst ea; subst eb
         have c5 := hcs 0 _ rfl
         rw [Nat.add_zero] at c5
         have hk : w2.cell? ⟨q, 0, none⟩ = some (.slice (some ⟨b, o, none⟩) n c) ∧ w2.cell? ⟨pg, po, none⟩ = some (.int .i64 (p : Nat)) ∧ w2.cell? ⟨b, o + p * 5 + 3, none⟩ = some (.string s) := ⟨y0, c5, y3⟩
         obtain ⟨g', o', c', e', -, -, hcs2, -, -⟩ := Sl.open_ (u := .int .i64 (v : Nat)) (vs := ints vs) (hF0.sl HVL.out)
         injection e' with e1 e4 e5
         injection e1 with e1
         injection e1 with ea eb
         subst ea; subst eb
         have c6 := hcs2 0 _ rfl
         rw [Nat.add_zero] at c6
         have HC4 := Lib.hid (HFC.out _ _ _ _ _ v false HVV.out.1 HVV.out.2 (by have := HBB.out; have := HTP.out; omega) hS2)
         unfold ptr num at HC4
         have HF2 := Lib.hid hF0
         have HK2 := Lib.hid hk2
         clear hF2 hcs hcs2 e2 e3 e4 e5 hF0 hS2 hk2)
      | (go_at_call 31; (with_reducible refine HP2.out.mono ?_); rintro e w2 ⟨k2, fv2, he, hF2, hS2, hk2⟩; (replace he : e = .returned (.int .i64 ((k2 : Nat) : Int)) := he); subst he
         have y0 := hS2.q0
         obtain ⟨LB2, lb2, -, -, -, -, y3, -, -⟩ := hS2.datc HD.out HPN.out
         rw [HSS.out] at y3
         have hF0 := HF1.out.trans hF2
         obtain ⟨g', o', c', e', -, -, hcs, -, -⟩ := Sl.open_ (u := .int .i64 (p : Nat)) (vs := ints bs) (hF0.sl HPL.out)
         injection e' with e1 e2 e3
         injection e1 with e1
         injection e1 with ea eb
         subst ea; subst eb
         have c5 := hcs 0 _ rfl
         rw [Nat.add_zero] at c5
         have hk : w2.cell? ⟨q, 0, none⟩ = some (.slice (some ⟨b, o, none⟩) n c) ∧ w2.cell? ⟨pg, po, none⟩ = some (.int .i64 (p : Nat)) ∧ w2.cell? ⟨b, o + p * 5 + 3, none⟩ = some (.string s) := ⟨y0, c5, y3⟩
         obtain ⟨g', o', c', e', -, -, hcs2, -, -⟩ := Sl.open_ (u := .int .i64 (v : Nat)) (vs := ints vs) (hF0.sl HVL.out)
         injection e' with e1 e4 e5
         injection e1 with e1
         injection e1 with ea eb
         subst ea; subst eb
         have c6 := hcs2 0 _ rfl
         rw [Nat.add_zero] at c6
         have HC4 := Lib.hid (HFC.out _ _ _ _ _ v false HVV.out.1 HVV.out.2 (by have := HBB.out; have := HTP.out; omega) hS2)
         unfold ptr num at HC4
         have HF2 := Lib.hid hF0
         have HK2 := Lib.hid hk2
         clear hF2 hcs hcs2 e2 e3 e4 e5 hF0 hS2 hk2))
    all_goals
      go_wp2_with (first
        | (go_at_call 20; (with_reducible refine HC4.out.mono ?_); rintro e w3 ⟨k3, fv3, he, hF3, hS3, hk3⟩; (replace he : e = .returned (.int .i64 ((k3 : Nat) : Int)) := he); subst he; have HC5 := Lib.hid (sput_two (k := 10) (a := a) hS3 HK2.out hk3 (by have := HBB.out; have := HTP.out; omega) rfl); unfold ptr at HC5; have HF3 := Lib.hid (HF2.out.trans hF3); clear hF3 hS3 hk3)
        | (go_at_call 31; (with_reducible refine HC5.out.mono ?_); rintro e w4 hQ; have HQ := Lib.hid (hQ.from HF3.out); obtain ⟨k4, fv4, he, -⟩ := hQ; (replace he : e = .returned (.int .i64 ((k4 : Nat) : Int)) := he); subst he))
      go_ret
      exact HQ.out.mono (by have := HTP.out; omega)
end
end EW
end Go.Proofs.YtaghlpolljaedaaGreat
