/-
  Layer 8's document: lists cut at their front, rows begun with one part; lambda. Conditions: form, of parts of less weight.
-/
import Derived.Test.YtaghlpolljaedaaGreatExpR8
namespace Go.Proofs.YtaghlpolljaedaaGreat
open Go.RowKit
set_option linter.unusedVariables false
namespace EX
open LX RX SX
theorem runs_takeP {R : Pt → List Fm → Except Int (List Fm × Nat)} (pre : List Pt) {l : List Nat} {j : Nat} (h : j < l.length) (X : Except Int (List Fm)) :
    (bnd X fun st => runs R (pre ++ (l.take (j + 1)).map .dat) st []) = bnd (bnd X fun st => runs R (pre ++ (l.take j).map .dat) st []) fun y => bnd (R (.dat l[j]) y.1) fun z => .ok (z.1, y.2 ++ [z.2]) := by
  rw [bnd_bnd]
  congr 1
  funext st
  rw [List.take_succ_eq_append_getElem h, List.map_append, ← List.append_assoc, runs_app]
  congr 1
  funext y
  exact runs_one R _ _ _
theorem sumT_mem {f : Nat → Nat} {l : List Nat} {i : Nat} (h : i ∈ l) : f i ≤ (l.map f).sum := by
  induction l with
  | nil => cases h
  | cons a l ih =>
    rw [List.map_cons, List.sum_cons]
    rcases List.mem_cons.1 h with rfl | h
    · omega
    · have := ih h; omega
/-- What is made of a datum with so many behind its name. -/
def atL (k : Nat) (a : Int) (r : List Nat) (pl : Pl) : Pl := if r.length < k then .bad a else pl
theorem sumT_wts (ns : List Nd) (l : List Nat) : sumT ns l = wts ns l := rfl
theorem sumT_len (ns : List Nd) (l : List Nat) : 16 * l.length ≤ sumT ns l := by
  unfold sumT
  induction l with
  | nil => simp
  | cons a l ih =>
    rw [List.map_cons, List.sum_cons, List.length_cons]
    have := T_pos ns a
    omega
theorem bnd_bad (ns : List Nd) (X : Except Int (List Fm)) (a : Int) : (bnd X fun _ => .error a) = bnd X (onPl (exq ns) (.bad a)) := rfl
/-- What a datum weighs: its parts, and theirs. -/
theorem T_kid {ns : List Nd} (h : Ok ns) {i p : Nat} (hp : p ∈ (ndAt ns i).l) : 16 * T ns p + 16 ≤ 16 * T ns i := by
  have h1 := T_all h i
  have h2 : 16 * T ns p ≤ wts ns (ndAt ns i).l := by
    unfold wts
    exact sumT_mem (f := fun i => 16 * T ns i) hp
  omega
end EX
namespace EW
open LX SX RW6 EX
open RX (Nd)
section
variable {w0 w w1 : World} {Z E : List Nat} {q : Nat} {b o : Nat} {n c : Nat} {ns : List Nd} {dv fv : Value} {X : Except Int (List Fm)} {B : Nat}
theorem slice_ints1 (g o m c k : Nat) (hk : m + 1 = k) (W : World) : (Instr.slice 23 (.slice (some ⟨g, o, none⟩) k c) (some (.int .i64 1)) none none).run Tryz.prog W = .ok (.slice (if c = 1 then some ⟨g, o, none⟩ else some ⟨g, o + 1, none⟩) m (c - 1)) W := by
  subst hk
  exact slice_ints g o m c W
theorem slice_ints2 (g o m c k : Nat) (hk : m + 2 = k) (W : World) : (Instr.slice 23 (.slice (some ⟨g, o, none⟩) k c) (some (.int .i64 2)) none none).run Tryz.prog W = .ok (.slice (if c = 2 then some ⟨g, o, none⟩ else some ⟨g, o + 2, none⟩) m (c - 2)) W := by
  subst hk
  have hs : (sizeOf (Tryz.prog.elem 23)).run Tryz.prog W = .ok 1 W := by kernel_rfl
  rw [run_slice_l (P := Tryz.prog) W 23 (some ⟨g, o, none⟩) (m + 2) c (by kernel_rfl) .i64 2 (by omega) (by omega), hs]
  simp [Result.andThen, sliced, Addr.add]
/-- A row that is read, place by place, and what stands behind its first ones. -/
theorem Sl.open_ {u : Value} {vs : List Value} {v : Value} (h : Sl w Z v (u :: vs)) : ∃ g o c, v = .slice (some ⟨g, o, none⟩) (vs.length + 1) c ∧ vs.length + 1 ≤ c ∧ c ≤ maxLen ∧ (∀ k x, (u :: vs)[k]? = some x → w.cell? ⟨g, o + k, none⟩ = some x) ∧
    Sl w Z (.slice (if c = 1 then some ⟨g, o, none⟩ else some ⟨g, o + 1, none⟩) vs.length (c - 1)) vs ∧ ∀ y t, vs = y :: t → Sl w Z (.slice (if c = 2 then some ⟨g, o, none⟩ else some ⟨g, o + 2, none⟩) t.length (c - 2)) t := by
  have h0 := h
  obtain ⟨g, o, c, rfl, hc, h1, h2, hl, hz, h3⟩ := h.cons
  obtain ⟨A', c', e, k1, ⟨k2, hty⟩, k3⟩ := h0
  injection e with e1 e2 e3
  subst e1 e3
  refine ⟨g, o, c, rfl, h1, h2, fun k x hx => ?_, h3, fun y t e => ?_⟩
  · obtain ⟨g', o', e', _, _, hc'⟩ := k3 k x hx
    injection e' with e'
    injection e' with ea eb
    subst ea; subst eb
    exact hc'
  · subst e
    refine ⟨_, _, rfl, by rw [List.length_cons] at h1; omega, ⟨by omega, fun g' o' sp cs fz eA hg x hx => ?_⟩, fun k x hx => ?_⟩
    · have : g' = g := by
        split at eA
        · injection eA with eA; injection eA with eA; exact eA.symm
        · injection eA with eA; injection eA with eA; exact eA.symm
      subst this
      exact hty _ o none cs fz rfl hg x (List.mem_cons_of_mem _ (List.mem_cons_of_mem _ hx))
    · have hk := (List.getElem?_eq_some_iff.1 hx).1
      obtain ⟨g', o', e', _, _, hc'⟩ := k3 (k + 2) x hx
      injection e' with e'
      injection e' with ea eb
      subst ea; subst eb
      refine ⟨g, o + 2, by rw [if_neg (by rw [List.length_cons] at h1; omega)], hz, hl, ?_⟩
      rw [show o + 2 + k = o + (k + 2) by omega]
      exact hc'
/-- The datum at i, as it lies, in a row that is known. -/
theorem Stx.datc (h : Stx w0 w E q (.slice (some ⟨b, o, none⟩) n c) fv X B) (D : Dta w0 (some ⟨b, o, none⟩) n ns) {i : Nat} (hi : i < n) : ∃ LA lc, b < w0.heap.size ∧ w.cell? ⟨b, o + i * 5, none⟩ = some (.int .u8 (ndAt ns i).kind) ∧
    w.cell? ⟨b, o + i * 5 + 1, none⟩ = some (.int .i64 (ndAt ns i).at_) ∧ w.cell? ⟨b, o + i * 5 + 2, none⟩ = some (.int .i64 (ndAt ns i).n) ∧ w.cell? ⟨b, o + i * 5 + 3, none⟩ = some (.string (ndAt ns i).s) ∧
    w.cell? ⟨b, o + i * 5 + 4, none⟩ = some (.slice LA (ndAt ns i).l.length lc) ∧ Sl w (E ++ Zx q fv) (.slice LA (ndAt ns i).l.length lc) (ints (ndAt ns i).l) := by
  obtain ⟨b', o', LA, lc, e, h1, h2⟩ := h.dat D hi
  injection e with e
  injection e with ea eb
  subst ea; subst eb
  exact ⟨LA, lc, h1, h2⟩
theorem Stx.dsome {DA : Option Addr} (h : Stx w0 w E q (.slice DA n c) fv X B) (D : Dta w0 DA n ns) {i : Nat} (hi : i < n) : ∃ b o, DA = some ⟨b, o, none⟩ := by
  obtain ⟨b', o', LA, lc, e, _⟩ := h.dat D hi
  exact ⟨b', o', e⟩
theorem Dta.kid {DA : Option Addr} (D : Dta w0 DA n ns) {i p : Nat} (hp : p ∈ (ndAt ns i).l) : p < n := D.len ▸ (EX.kid D.ok hp).2
/-- A row begun with one part. -/
theorem Col.one {w3 : World} {R : List Fm → Except Int (List Fm × Nat)} {k : Nat} {fv3 : Value} (h0 : w0.heap.size ≤ w.heap.size) (hF : Fr w w3 q fv fv3) (hS : Stx w0 w3 E q dv fv3 (fst' (bnd X R)) B) (hk : ∀ st k', bnd X R = .ok (st, k') → k = k') {g : Nat} (hg : w3.heap.size = g) :
    Col w0 w (w3.alloc (.cells #[.int .i64 ((k : Nat) : Int)] 3)) E q dv fv (bnd X fun st => bnd (R st) fun y => .ok (y.1, [y.2])) B (.slice (some ⟨g, 0, none⟩) 1 1) 1 := by
  subst hg
  have f := (MM.Far.refl [] w3).alloc (.cells #[.int .i64 ((k : Nat) : Int)] 3)
  have ho : (w3.alloc (.cells #[.int .i64 ((k : Nat) : Int)] 3)).ownsRow w.heap.size 3 1 (.slice (some ⟨w3.heap.size, 0, none⟩) 1 1) 1 (ints [k]) :=
    MO.of_row (MM.Row.new w3 3 (ints [k])) hF.far.size (by rfl) (by unfold maxLen; omega)
  refine ⟨fv3, [k], rfl, ho, ?_, hF.trans (Fr.quiet f), fun st l e => ?_⟩
  · have e : fsts (bnd X fun st => bnd (R st) fun y => .ok (y.1, [y.2])) = fst' (bnd X R) := by
      cases X with
      | error a => rfl
      | ok st =>
        show fsts (bnd (R st) _) = fst' (R st)
        cases R st <;> rfl
    rw [e]
    exact Stx.app (v := .slice none 0 0) (E := E) hS (f.mono (fun b hb _ => by cases hb)) ho h0 (.inr ⟨_, rfl, Nat.le_refl _⟩)
  · cases X with
    | error a => cases e
    | ok st0 =>
      have e : (bnd (R st0) fun y => Except.ok (y.1, [y.2])) = .ok (st, l) := e
      have hk := fun s k' (e : R st0 = .ok (s, k')) => hk s k' e
      cases hR : R st0 with
      | error a => rw [hR] at e; cases e
      | ok y =>
        obtain ⟨s1, k1⟩ := y
        rw [hR] at e
        injection e with e
        injection e with _ e
        rw [← e, hk s1 k1 hR]
end
end EW
end Go.Proofs.YtaghlpolljaedaaGreat
