/-
  Several texts in one: ExpMem, ExpC1, ExpEnv, ExpC2, ExpC3, ExpPost, ExpRow. Each one's own head tells its conditions.
-/
import Derived.Test.YtaghlpolljaedaaGreatMemAll
import Derived.Test.YtaghlpolljaedaaGreatExpPure
import Derived.Test.YtaghlpolljaedaaGreatReadMems
import Derived.MapKept
import Derived.Laws.EntriesVeiled
import Derived.Deep.RegionLaw
import Derived.Deep.RegionHeld3
import Derived.BigQuiet
import Derived.Deep.QuietTactic
import Derived.Deep.DeepCutAuto
/-
  Layer 8's code in memory: slices that are read, boxes, parts as function values, plans. No condition.
-/
namespace Go.Proofs.YtaghlpolljaedaaGreat
open Go.RowKit
namespace EW
open LX SX RW6 EX
open RX (Nd)
/-! ### slices that are read -/
/-- In a row of numbers there are numbers alone. -/
def Ty (w : World) (A : Option Addr) (vs : List Value) : Prop := ∀ g o sp cs fz, A = some ⟨g, o, sp⟩ → w.heap[g]? = some (.cells cs 3 fz) → ∀ u ∈ vs, ∃ i, u = .int .i64 i
/-- A slice and what it holds, in none of the blocks Z. -/
def Sl (w : World) (Z : List Nat) (v : Value) (vs : List Value) : Prop :=
  ∃ A c, v = .slice A vs.length c ∧ vs.length ≤ c ∧ (c ≤ maxLen ∧ Ty w A vs) ∧ ∀ k u, vs[k]? = some u → ∃ g o, A = some ⟨g, o, none⟩ ∧ g ∉ Z ∧ g < w.heap.size ∧ w.cell? ⟨g, o + k, none⟩ = some u
section
variable {w w' : World} {Z Z' S : List Nat} {v : Value} {vs : List Value}
theorem Sl.far (h : Sl w Z v vs) (f : MM.Far S w w') (hS : ∀ b ∈ S, b < w.heap.size → b ∈ Z) : Sl w' Z v vs := by
  obtain ⟨A, c, e, h1, ⟨h2, hty⟩, h3⟩ := h
  refine ⟨A, c, e, h1, ⟨h2, fun g o sp cs fz eA hh u hu => ?_⟩, fun k u hu => ?_⟩
  · obtain ⟨k, hk⟩ := List.getElem?_of_mem hu
    obtain ⟨g', o', e2, hz, hl, _⟩ := h3 k u hk
    have e3 := e2.symm.trans eA
    injection e3 with e3
    injection e3 with e4
    subst e4
    exact hty g' o sp cs fz eA ((f.block g' hl (fun hm => hz (hS _ hm hl))).symm.trans hh) u hu
  · obtain ⟨g, o, e2, hz, hl, hc⟩ := h3 k u hu
    exact ⟨g, o, e2, hz, Nat.lt_of_lt_of_le hl f.size, (f.cell (p := ⟨g, o + k, none⟩) hl (fun hm => hz (hS _ hm hl))).trans hc⟩
theorem Sl.more (h : Sl w Z v vs) (hZ : ∀ b ∈ Z', b ∈ Z ∨ w.heap.size ≤ b) : Sl w Z' v vs := by
  obtain ⟨A, c, e, h1, h2, h3⟩ := h
  refine ⟨A, c, e, h1, h2, fun k u hu => ?_⟩
  obtain ⟨g, o, e2, hz, hl, hc⟩ := h3 k u hu
  refine ⟨g, o, e2, fun hm => ?_, hl, hc⟩
  rcases hZ g hm with h | h
  · exact hz h
  · omega
theorem Sl.nil (w : World) (Z : List Nat) : Sl w Z (.slice none 0 0) [] := ⟨none, 0, rfl, Nat.le_refl _, ⟨Nat.zero_le _, fun _ _ _ _ _ _ _ u hu => by cases hu⟩, fun k u h => by simp at h⟩
theorem Sl.row {b : Nat} {t : TypeId} {l : List Value} (h : MM.Row w b t l) (hb : b ∉ Z) (hm : l.length ≤ maxLen) (hi : 3 ≠ t ∨ ∀ u ∈ l, ∃ i, u = .int .i64 i := by first | exact .inl (by decide) | exact .inr (fun u hu => by simp only [ints, List.mem_map] at hu; obtain ⟨x, _, rfl⟩ := hu; exact ⟨_, rfl⟩)) : Sl w Z (.slice (some ⟨b, 0, none⟩) l.length l.length) l :=
  ⟨_, _, rfl, Nat.le_refl _, ⟨hm, fun g o sp cs fz e hh => by
    injection e with e
    injection e with e1
    subst e1
    have h' : w.heap[b]? = some (.cells l.toArray t (0, 0)) := h
    rw [h'] at hh
    injection hh with hh
    injection hh with _ hh
    rcases hi with hi | hi
    · exact absurd hh.symm hi
    · exact hi⟩, fun k u hu => ⟨b, 0, rfl, hb, h.lt, by rw [Nat.zero_add]; exact h.at hu⟩⟩
theorem Sl.own {base : Nat} {e : TypeId} {n : Nat} (h : w.ownsRow base e 1 v n vs) (hZ : ∀ b, v.ownBlock = some b → b ∉ Z) (hi : 3 ≠ e ∨ ∀ u ∈ vs, ∃ i, u = .int .i64 i := by first | exact .inl (by decide) | exact .inr (fun u hu => by simp only [ints, List.mem_map] at hu; obtain ⟨x, _, rfl⟩ := hu; exact ⟨_, rfl⟩)) : Sl w Z v vs := by
  obtain ⟨A, c, ev, k0, k1, k2, k3, hh⟩ := MO.form h
  have hn : vs.length = n := by rw [h.1]; omega
  refine ⟨A, c, by rw [hn]; exact ev, by omega, ⟨k2, fun g o sp cs fz eA hg => ?_⟩, fun k u hu => ?_⟩
  · rcases hi with hi | hi
    · rcases h.2 with ⟨rfl, _⟩ | ⟨g', cap, cur, rfl, _, hg', _⟩
      · injection ev with ev _ _
        subst ev
        cases eA
      · injection ev with ev _ _
        rw [← ev] at eA
        injection eA with eA
        injection eA with eA
        subst eA
        rw [hg'] at hg
        injection hg with hg
        injection hg with _ hg
        exact absurd hg.symm hi
    · exact hi
  rcases hh with ⟨_, hz, _⟩ | ⟨g, rfl, _, hlt⟩
  · have := (List.getElem?_eq_some_iff.1 hu).1; omega
  · obtain ⟨ad, e2, hb, hl, hc⟩ := k3 Z hZ (by have := (List.getElem?_eq_some_iff.1 hu).1; omega)
    injection e2 with e2
    subst e2
    refine ⟨g, 0, rfl, hb, hl, ?_⟩
    have := hc k u hu
    rw [MM.head_add] at this
    rw [Nat.zero_add]; exact this
theorem Sl.cons {u : Value} (h : Sl w Z v (u :: vs)) : ∃ g o c, v = .slice (some ⟨g, o, none⟩) (vs.length + 1) c ∧ w.cell? ⟨g, o, none⟩ = some u ∧ vs.length + 1 ≤ c ∧ c ≤ maxLen ∧ g < w.heap.size ∧ g ∉ Z ∧
    Sl w Z (.slice (if c = 1 then some ⟨g, o, none⟩ else some ⟨g, o + 1, none⟩) vs.length (c - 1)) vs := by
  obtain ⟨A, c, e, h1, ⟨h2, hty⟩, h3⟩ := h
  rw [List.length_cons] at e h1
  obtain ⟨g, o, rfl, hz, hl, hc⟩ := h3 0 u rfl
  refine ⟨g, o, c, e, hc, h1, h2, hl, hz, _, _, rfl, by omega, ⟨by omega, fun g' o' sp cs fz eA hg x hx => ?_⟩, fun k x hx => ?_⟩
  · have : g' = g := by
      split at eA
      · injection eA with eA; injection eA with eA; exact eA.symm
      · injection eA with eA; injection eA with eA; exact eA.symm
    subst this
    exact hty _ o none cs fz rfl hg x (List.mem_cons_of_mem _ hx)
  obtain ⟨g', o', e', _, _, hc'⟩ := h3 (k + 1) x hx
  injection e' with e'
  injection e' with e1 e2
  subst e1; subst e2
  have hk := (List.getElem?_eq_some_iff.1 hx).1
  refine ⟨g, o + 1, by rw [if_neg (by omega)], hz, hl, ?_⟩
  rw [show o + 1 + k = o + (k + 1) by omega]
  exact hc'
theorem Sl.len {n : Nat} {A : Option Addr} {c : Nat} (h : Sl w Z (.slice A n c) vs) : n = vs.length := by
  obtain ⟨A', c', e, _⟩ := h
  injection e
theorem Sl.form (h : Sl w Z v vs) : ∃ A c, v = .slice A vs.length c ∧ vs.length ≤ c ∧ c ≤ maxLen := by
  obtain ⟨A, c, e, h1, h2, _⟩ := h
  exact ⟨A, c, e, h1, h2.1⟩
end
theorem slice_ints (g o m c : Nat) (W : World) : (Instr.slice 23 (.slice (some ⟨g, o, none⟩) (m + 1) c) (some (.int .i64 1)) none none).run Tryz.prog W = .ok (.slice (if c = 1 then some ⟨g, o, none⟩ else some ⟨g, o + 1, none⟩) m (c - 1)) W := by
  have hs : (sizeOf (Tryz.prog.elem 23)).run Tryz.prog W = .ok 1 W := by kernel_rfl
  rw [run_slice_l (P := Tryz.prog) W 23 (some ⟨g, o, none⟩) (m + 1) c (by kernel_rfl) .i64 1 (by omega) (by omega), hs]
  simp [Result.andThen, sliced, Addr.add]
theorem slice_strs (g o m c : Nat) (W : World) : (Instr.slice 37 (.slice (some ⟨g, o, none⟩) (m + 1) c) (some (.int .i64 1)) none none).run Tryz.prog W = .ok (.slice (if c = 1 then some ⟨g, o, none⟩ else some ⟨g, o + 1, none⟩) m (c - 1)) W := by
  have hs : (sizeOf (Tryz.prog.elem 37)).run Tryz.prog W = .ok 1 W := by kernel_rfl
  rw [run_slice_l (P := Tryz.prog) W 37 (some ⟨g, o, none⟩) (m + 1) c (by kernel_rfl) .i64 1 (by omega) (by omega), hs]
  simp [Result.andThen, sliced, Addr.add]
/-! ### boxes -/
structure Bx (w : World) (Z : List Nat) (b : Nat) (t : TypeId) (v : Value) : Prop where
  row : MM.Row w b t [v]
  out : b ∉ Z
section
variable {w w' : World} {Z Z' S : List Nat} {b : Nat} {t : TypeId} {v : Value}
theorem Bx.far (h : Bx w Z b t v) (f : MM.Far S w w') (hS : ∀ b ∈ S, b < w.heap.size → b ∈ Z) : Bx w' Z b t v := ⟨h.row.far f (fun hm => h.out (hS _ hm h.row.lt)), h.out⟩
theorem Bx.more (h : Bx w Z b t v) (hZ : ∀ b ∈ Z', b ∈ Z ∨ w.heap.size ≤ b) : Bx w Z' b t v := ⟨h.row, fun hm => by
  rcases hZ b hm with h2 | h2
  · exact h.out h2
  · have := h.row.lt; omega⟩
theorem Bx.at (h : Bx w Z b t v) : w.cell? ⟨b, 0, none⟩ = some v := h.row.at (i := 0) rfl
theorem Bx.lt (h : Bx w Z b t v) : b < w.heap.size := h.row.lt
theorem Bx.mk' (h : MM.Row w b t [v]) (hz : ∀ x ∈ Z, x < b) : Bx w Z b t v := ⟨h, fun hm => Nat.lt_irrefl _ (hz b hm)⟩
end
@[reducible] def ptr (q : Nat) : Value := .pointer (some ⟨q, 0, none⟩)
@[reducible] def num (a : Int) : Value := .int .i64 a
def strs (l : List ByteArray) : List Value := l.map .string
/-! ### parts -/
inductive Is (w : World) (Z : List Nat) (q : Nat) : Value → Pt → Prop where
  | top {bx bi i : Nat} (h1 : Bx w Z bx 44 (ptr q)) (h2 : Bx w Z bi 3 (num i)) : Is w Z q (.func (.func 27) #[] #[ptr bx, ptr bi]) (.top i)
  | dat {bx bi i : Nat} (h1 : Bx w Z bx 44 (ptr q)) (h2 : Bx w Z bi 3 (num i)) : Is w Z q (.func (.func 99) #[] #[ptr bx, ptr bi]) (.dat i)
  | seq {ba bx bl : Nat} {a : Int} {v : Value} {l : List Nat} (h1 : Bx w Z ba 3 (num a)) (h2 : Bx w Z bx 44 (ptr q)) (h3 : Bx w Z bl 23 v) (h4 : Sl w Z v (ints l)) :
      Is w Z q (.func (.func 84) #[] #[ptr ba, ptr bx, ptr bl]) (.seq a l)
  | tr {ba bn : Nat} {a n : Int} (h1 : Bx w Z ba 3 (num a)) (h2 : Bx w Z bn 3 (num n)) : Is w Z q (.func (.func 100) #[] #[ptr ba, ptr bn]) (.tr a n)
  | kept {ba : Nat} {a : Int} (h1 : Bx w Z ba 3 (num a)) : Is w Z q (.func (.func 109) #[] #[ptr ba]) (.kept a)
  | fn {ba bn bb : Nat} {a : Int} {vn vb : Value} {names : List ByteArray} {b : Pt} (h1 : Bx w Z ba 3 (num a)) (h2 : Bx w Z bn 37 vn) (h3 : Sl w Z vn (strs names)) (h4 : Bx w Z bb 75 vb) (h5 : Is w Z q vb b) :
      Is w Z q (.func (.func 107) #[] #[ptr ba, ptr bn, ptr bb]) (.fn a names b)
  | fnd {bl bn bb : Nat} {a : Int} {rv tv vn vb : Value} {names : List ByteArray} {b : Pt} (h1 : MM.Row w bl 95 [num a, rv, tv]) (h0 : bl ∉ Z) (h2 : Bx w Z bn 37 vn) (h3 : Sl w Z vn (strs names)) (h4 : Bx w Z bb 75 vb) (h5 : Is w Z q vb b) :
      Is w Z q (.func (.func 106) #[] #[ptr bl, ptr bn, ptr bb]) (.fn a names b)
  | nested {bx ba bn bv bb : Nat} {a : Int} {vn vv vb : Value} {s : ByteArray} {i : Nat} {names : List ByteArray} {l : List Nat} {b : Pt} (h1 : Bx w Z bx 44 (ptr q)) (h2 : Bx w Z ba 3 (num a))
      (h3 : Bx w Z bn 37 vn) (h4 : Sl w Z vn (strs (s :: names))) (h5 : Bx w Z bv 23 vv) (h6 : Sl w Z vv (ints (i :: l))) (h7 : Bx w Z bb 75 vb) (h8 : Is w Z q vb b) :
      Is w Z q (.func (.func 108) #[] #[ptr bx, ptr ba, ptr bn, ptr bv, ptr bb]) (.nested a names l b)
  | cond {bx ba bl : Nat} {a : Int} {v : Value} {i : Nat} {l : List Nat} (h1 : Bx w Z bx 44 (ptr q)) (h2 : Bx w Z ba 3 (num a)) (h3 : Bx w Z bl 23 v) (h4 : Sl w Z v (ints (i :: l))) :
      Is w Z q (.func (.func 91) #[] #[ptr bx, ptr ba, ptr bl]) (.cond a l)
  | and {bx ba bl : Nat} {a : Int} {v : Value} {i : Nat} {l : List Nat} (h1 : Bx w Z bx 44 (ptr q)) (h2 : Bx w Z ba 3 (num a)) (h3 : Bx w Z bl 23 v) (h4 : Sl w Z v (ints (i :: l))) :
      Is w Z q (.func (.func 94) #[] #[ptr bx, ptr ba, ptr bl]) (.and a l)
  | or {bx ba bl : Nat} {a : Int} {v : Value} {i : Nat} {l : List Nat} (h1 : Bx w Z bx 44 (ptr q)) (h2 : Bx w Z ba 3 (num a)) (h3 : Bx w Z bl 23 v) (h4 : Sl w Z v (ints (i :: l))) :
      Is w Z q (.func (.func 96) #[] #[ptr bx, ptr ba, ptr bl]) (.or a l)
  | orb {ba bo : Nat} {a : Int} {vo : Value} {l : List Nat} (h1 : Bx w Z ba 3 (num a)) (h2 : Bx w Z bo 74 vo) (h3 : Is w Z q vo (.or a l)) :
      Is w Z q (.func (.func 97) #[] #[ptr ba, ptr bo]) (.orb a l)
section
variable {w w' : World} {Z Z' S : List Nat} {q : Nat} {v : Value} {p : Pt}
theorem Is.far (h : Is w Z q v p) (f : MM.Far S w w') (hS : ∀ b ∈ S, b < w.heap.size → b ∈ Z) : Is w' Z q v p := by
  induction h with
  | top h1 h2 => exact .top (h1.far f hS) (h2.far f hS)
  | dat h1 h2 => exact .dat (h1.far f hS) (h2.far f hS)
  | seq h1 h2 h3 h4 => exact .seq (h1.far f hS) (h2.far f hS) (h3.far f hS) (h4.far f hS)
  | tr h1 h2 => exact .tr (h1.far f hS) (h2.far f hS)
  | kept h1 => exact .kept (h1.far f hS)
  | fn h1 h2 h3 h4 _ ih => exact .fn (h1.far f hS) (h2.far f hS) (h3.far f hS) (h4.far f hS) ih
  | fnd h1 h0 h2 h3 h4 _ ih => exact .fnd (h1.far f (fun hm => h0 (hS _ hm h1.lt))) h0 (h2.far f hS) (h3.far f hS) (h4.far f hS) ih
  | nested h1 h2 h3 h4 h5 h6 h7 _ ih => exact .nested (h1.far f hS) (h2.far f hS) (h3.far f hS) (h4.far f hS) (h5.far f hS) (h6.far f hS) (h7.far f hS) ih
  | cond h1 h2 h3 h4 => exact .cond (h1.far f hS) (h2.far f hS) (h3.far f hS) (h4.far f hS)
  | and h1 h2 h3 h4 => exact .and (h1.far f hS) (h2.far f hS) (h3.far f hS) (h4.far f hS)
  | or h1 h2 h3 h4 => exact .or (h1.far f hS) (h2.far f hS) (h3.far f hS) (h4.far f hS)
  | orb h1 h2 _ ih => exact .orb (h1.far f hS) (h2.far f hS) ih
theorem Is.more (h : Is w Z q v p) (hZ : ∀ b ∈ Z', b ∈ Z ∨ w.heap.size ≤ b) : Is w Z' q v p := by
  induction h with
  | top h1 h2 => exact .top (h1.more hZ) (h2.more hZ)
  | dat h1 h2 => exact .dat (h1.more hZ) (h2.more hZ)
  | seq h1 h2 h3 h4 => exact .seq (h1.more hZ) (h2.more hZ) (h3.more hZ) (h4.more hZ)
  | tr h1 h2 => exact .tr (h1.more hZ) (h2.more hZ)
  | kept h1 => exact .kept (h1.more hZ)
  | fn h1 h2 h3 h4 _ ih => exact .fn (h1.more hZ) (h2.more hZ) (h3.more hZ) (h4.more hZ) ih
  | fnd h1 h0 h2 h3 h4 _ ih =>
    refine .fnd h1 (fun hm => ?_) (h2.more hZ) (h3.more hZ) (h4.more hZ) ih
    rcases hZ _ hm with h | h
    · exact h0 h
    · have := h1.lt; omega
  | nested h1 h2 h3 h4 h5 h6 h7 _ ih => exact .nested (h1.more hZ) (h2.more hZ) (h3.more hZ) (h4.more hZ) (h5.more hZ) (h6.more hZ) (h7.more hZ) ih
  | cond h1 h2 h3 h4 => exact .cond (h1.more hZ) (h2.more hZ) (h3.more hZ) (h4.more hZ)
  | and h1 h2 h3 h4 => exact .and (h1.more hZ) (h2.more hZ) (h3.more hZ) (h4.more hZ)
  | or h1 h2 h3 h4 => exact .or (h1.more hZ) (h2.more hZ) (h3.more hZ) (h4.more hZ)
  | orb h1 h2 _ ih => exact .orb (h1.more hZ) (h2.more hZ) ih
theorem Is.func (h : Is w Z q v p) : ∃ f l, v = .func (.func f) #[] l := by
  cases h <;> exact ⟨_, _, rfl⟩
end
/-- Parts in a row. -/
def Iss (w : World) (Z : List Nat) (q : Nat) (vs : List Value) (ps : List Pt) : Prop := vs.length = ps.length ∧ ∀ (k : Nat) (v : Value) (p : Pt), vs[k]? = some v → ps[k]? = some p → Is w Z q v p
section
variable {w w' : World} {Z Z' S : List Nat} {q : Nat} {v : Value} {p : Pt} {vs : List Value} {ps : List Pt}
theorem Iss.far (h : Iss w Z q vs ps) (f : MM.Far S w w') (hS : ∀ b ∈ S, b < w.heap.size → b ∈ Z) : Iss w' Z q vs ps := ⟨h.1, fun k v p h1 h2 => (h.2 k v p h1 h2).far f hS⟩
theorem Iss.more (h : Iss w Z q vs ps) (hZ : ∀ b ∈ Z', b ∈ Z ∨ w.heap.size ≤ b) : Iss w Z' q vs ps := ⟨h.1, fun k v p h1 h2 => (h.2 k v p h1 h2).more hZ⟩
theorem Iss.nil (w : World) (Z : List Nat) (q : Nat) : Iss w Z q [] [] := ⟨rfl, fun k v p h => by simp at h⟩
theorem Iss.cons (h : Is w Z q v p) (hs : Iss w Z q vs ps) : Iss w Z q (v :: vs) (p :: ps) := ⟨by simp [hs.1], fun k x y h1 h2 => by
  cases k with
  | zero => simp at h1 h2; subst h1; subst h2; exact h
  | succ k => exact hs.2 k x y (by simpa using h1) (by simpa using h2)⟩
theorem Is.snoc0 (h : Is w Z q v p) (hs : Iss w Z q vs ps) : Iss w Z q (v :: vs) (p :: ps) := Iss.cons h hs
theorem Iss.snoc (hs : Iss w Z q vs ps) (h : Is w Z q v p) : Iss w Z q (vs ++ [v]) (ps ++ [p]) := ⟨by simp [hs.1], fun k x y h1 h2 => by
  have hl := hs.1
  rcases Nat.lt_trichotomy k vs.length with hk | hk | hk
  · rw [List.getElem?_append_left hk] at h1
    rw [List.getElem?_append_left (by omega)] at h2
    exact hs.2 k x y h1 h2
  · rw [List.getElem?_append_right (by omega), hk, Nat.sub_self] at h1
    rw [List.getElem?_append_right (by omega), show k - ps.length = 0 by omega] at h2
    simp at h1 h2; subst h1; subst h2; exact h
  · rw [List.getElem?_append_right (by omega), List.getElem?_eq_none (by simp; omega)] at h1
    cases h1⟩
end
/-- A plan as the value that stands for it. -/
def plV (bad : Bool) (f : Fm) (pv parts ins : Value) : Value := .agg #[.bool bad, .int .u8 f.kind, num f.at_, num f.n, num 0, .string f.s, pv, .int .u64 0, .slice none 0 0, parts, ins]
def IsPl (w : World) (Z : List Nat) (q : Nat) (v : Value) : Pl → Prop
  | .bad a => v = plV true (frm 0 a 0) (.slice none 0 0) (.slice none 0 0) .nilFunc
  | .mk f ps => ∃ pv parts vs, v = plV false f pv parts .nilFunc ∧ Sl w Z pv (strs f.p) ∧ Sl w Z parts vs ∧ Iss w Z q vs ps
  | .ins p => ∃ v', v = plV false (frm 0 0 0) (.slice none 0 0) (.slice none 0 0) v' ∧ Is w Z q v' p
theorem IsPl.far {w w' : World} {Z S : List Nat} {q : Nat} {v : Value} {pl : Pl} (h : IsPl w Z q v pl) (f : MM.Far S w w') (hS : ∀ b ∈ S, b < w.heap.size → b ∈ Z) : IsPl w' Z q v pl := by
  cases pl with
  | bad a => exact h
  | mk fm ps =>
    obtain ⟨pv, parts, vs, e, h1, h2, h3⟩ := h
    exact ⟨pv, parts, vs, e, h1.far f hS, h2.far f hS, h3.far f hS⟩
  | ins p =>
    obtain ⟨v', e, h1⟩ := h
    exact ⟨v', e, h1.far f hS⟩
/-- What a call that makes a part, or a plan, comes to. -/
def PartQ (w : World) (Z : List Nat) (q : Nat) (p : Pt) (e : Ending) (w' : World) : Prop := ∃ v, e = .returned v ∧ Is w' Z q v p ∧ MM.Far [] w w'
def PlanQ (w : World) (Z : List Nat) (q : Nat) (pl : Pl) (e : Ending) (w' : World) : Prop := ∃ v, e = .returned v ∧ IsPl w' Z q v pl ∧ MM.Far [] w w'
end EW
end Go.Proofs.YtaghlpolljaedaaGreat
/-
  Contracts of the code's calls that make a part or a plan out of what they are handed. No condition but that what is to stay away is there already.
-/
namespace Go.Proofs.YtaghlpolljaedaaGreat
open Go.RowKit
namespace EW
open LX SX RW6 EX
open RX (Nd)
section
variable {w : World} {Z : List Nat} {q : Nat}
theorem sz_alloc (w : World) (o : Obj) : (w.alloc o).heap.size = w.heap.size + 1 := by show (w.heap.push o).size = _; simp
theorem bx_new {k : Nat} (t : TypeId) (v : Value) (hk : w.heap.size = k) (hz : ∀ b ∈ Z, b < w.heap.size) : Bx (w.alloc (.cells #[v] t)) Z k t v := by
  subst hk
  exact ⟨MM.Row.new w t [v], fun hm => Nat.lt_irrefl _ (hz _ hm)⟩
theorem row_new {k : Nat} (t : TypeId) (l : List Value) (hk : w.heap.size = k) : MM.Row (w.alloc (.cells l.toArray t)) k t l := by
  subst hk
  exact MM.Row.new w t l
theorem z_alloc {o : Obj} (hz : ∀ b ∈ Z, b < w.heap.size) : ∀ b ∈ Z, b < (w.alloc o).heap.size := fun b hb => Nat.lt_of_lt_of_le (hz b hb) ((MM.Far.refl [] w).alloc o).size
theorem z_far {S : List Nat} {w' : World} (hz : ∀ b ∈ Z, b < w.heap.size) (f : MM.Far S w w') : ∀ b ∈ Z, b < w'.heap.size := fun b hb => Nat.lt_of_lt_of_le (hz b hb) f.size
theorem Bx.alloc {b : Nat} {t : TypeId} {v : Value} (h : Bx w Z b t v) (o : Obj) : Bx (w.alloc o) Z b t v := h.far ((MM.Far.refl [] w).alloc o) (by simp)
theorem Is.alloc {v : Value} {p : Pt} (h : Is w Z q v p) (o : Obj) : Is (w.alloc o) Z q v p := h.far ((MM.Far.refl [] w).alloc o) (by simp)
theorem Iss.alloc {v : List Value} {p : List Pt} (h : Iss w Z q v p) (o : Obj) : Iss (w.alloc o) Z q v p := h.far ((MM.Far.refl [] w).alloc o) (by simp)
theorem Sl.alloc {v : Value} {vs : List Value} (h : Sl w Z v vs) (o : Obj) : Sl (w.alloc o) Z v vs := h.far ((MM.Far.refl [] w).alloc o) (by simp)
/-- A slice that has just been made. -/
theorem sl_new {k n : Nat} (t : TypeId) (l : List Value) (hk : w.heap.size = k) (hn : l.length = n) (hm : n ≤ maxLen) (hz : ∀ b ∈ Z, b < w.heap.size) (hi : 3 ≠ t ∨ ∀ u ∈ l, ∃ i, u = .int .i64 i := by exact .inl (by decide)) : Sl (w.alloc (.cells l.toArray t)) Z (.slice (some ⟨k, 0, none⟩) n n) l := by
  subst hk; subst hn
  exact Sl.row (MM.Row.new w t l) (fun hm => Nat.lt_irrefl _ (hz _ hm)) hm hi
end
section
variable (w : World) {Z : List Nat} (q : Nat) (hz : ∀ b ∈ Z, b < w.heap.size)
include hz
theorem truth_any (a n : Int) : Calls Tryz.prog 63 #[num a, num n] w (PartQ w Z q (.tr a n)) := by
  have hB := (bx_new 3 (num a) rfl hz).alloc (.cells #[num n] 3)
  have hB2 := bx_new 3 (num n) (sz_alloc w (.cells #[num a] 3)) (z_alloc hz)
  have HI := Lib.hid (Is.tr (q := q) hB hB2)
  clear hB hB2 hz
  unfold num at HI ⊢
  go_enter Tryz.func63, Tryz.ntmps63
  go_wp2
  go_ret
  exact ⟨_, rfl, HI.out, ((MM.Far.refl [] w).alloc _).alloc _⟩
theorem kept_any (a : Int) : Calls Tryz.prog 98 #[num a] w (PartQ w Z q (.kept a)) := by
  have HI := Lib.hid (Is.kept (q := q) (bx_new 3 (num a) rfl hz))
  clear hz
  unfold num at HI ⊢
  go_enter Tryz.func98, Tryz.ntmps98
  go_wp2
  go_ret
  exact ⟨_, rfl, HI.out, ((MM.Far.refl [] w).alloc _)⟩
theorem datum_any (i : Nat) : Calls Tryz.prog 62 #[ptr q, num i] w (PartQ w Z q (.dat i)) := by
  have hB := (bx_new 44 (ptr q) rfl hz).alloc (.cells #[num i] 3)
  have hB2 := bx_new 3 (num i) (sz_alloc w (.cells #[ptr q] 44)) (z_alloc hz)
  have HI := Lib.hid (Is.dat (q := q) hB hB2)
  clear hB hB2 hz
  unfold num ptr at HI ⊢
  go_enter Tryz.func62, Tryz.ntmps62
  go_wp2
  go_ret
  exact ⟨_, rfl, HI.out, ((MM.Far.refl [] w).alloc _).alloc _⟩
theorem choose_any (a : Int) {va vb vc : Value} {pa pb pc : Pt} (ha : Is w Z q va pa) (hb : Is w Z q vb pb) (hc : Is w Z q vc pc) :
    Calls Tryz.prog 61 #[num a, va, vb, vc] w (PlanQ w Z q (choosePl a pa pb pc)) := by
  obtain ⟨fa, la, rfl⟩ := ha.func
  obtain ⟨fb, lb, rfl⟩ := hb.func
  obtain ⟨fc, lc, rfl⟩ := hc.func
  have HI : Hid (∀ o1 (o2 : TypeId), 3 ≠ o2 → IsPl ((w.alloc o1).alloc (.cells #[.func (.func fa) #[] la, .func (.func fb) #[] lb, .func (.func fc) #[] lc] o2)) Z q (plV false (frm 5 a 0) (.slice none 0 0) (.slice (some ⟨w.heap.size + 1, 0, none⟩) 3 3) .nilFunc) (choosePl a pa pb pc)) :=
    Lib.hid (fun o1 o2 ho2 => ⟨_, _, _, rfl, Sl.nil _ _, sl_new (w := w.alloc o1) o2 [.func (.func fa) #[] la, .func (.func fb) #[] lb, .func (.func fc) #[] lc] (sz_alloc w o1) rfl (by decide) (z_alloc hz) (.inl ho2),
      ((ha.alloc o1).alloc _).snoc0 (((hb.alloc o1).alloc _).snoc0 (((hc.alloc o1).alloc _).snoc0 (Iss.nil _ _ _)))⟩)
  clear ha hb hc hz
  unfold num
  go_enter Tryz.func61, Tryz.ntmps61
  go_wp2
  exact bodyPost_ret (v := plV false (frm 5 a 0) (.slice none 0 0) (.slice (some ⟨w.heap.size + 1, 0, none⟩) 3 3) .nilFunc) (by simp [plV, num, frm, LX.emp, results, Tryz.results61, go_sem]) rfl ⟨_, rfl, HI.out _ _ (by decide), ((MM.Far.refl [] w).alloc _).alloc _⟩
theorem function_any (a : Int) {pv vb : Value} {names : List ByteArray} {b : Pt} (hp : Sl w Z pv (strs names)) (hb : Is w Z q vb b) :
    Calls Tryz.prog 82 #[num a, pv, vb] w (PlanQ w Z q (function a names b)) := by
  obtain ⟨fb, lb, rfl⟩ := hb.func
  obtain ⟨A, c, rfl, _⟩ := hp.form
  have HI : Hid (∀ o1 (o2 : TypeId), 3 ≠ o2 → IsPl ((w.alloc o1).alloc (.cells #[.func (.func fb) #[] lb] o2)) Z q (plV false ⟨6, a, 0, emp, names, []⟩ (.slice A (strs names).length c) (.slice (some ⟨w.heap.size + 1, 0, none⟩) 1 1) .nilFunc) (function a names b)) :=
    Lib.hid (fun o1 o2 ho2 => ⟨_, _, _, rfl, (hp.alloc o1).alloc _, sl_new (w := w.alloc o1) o2 [.func (.func fb) #[] lb] (sz_alloc w o1) rfl (by decide) (z_alloc hz) (.inl ho2), ((hb.alloc o1).alloc _).snoc0 (Iss.nil _ _ _)⟩)
  clear hp hb hz
  unfold num
  go_enter Tryz.func82, Tryz.ntmps82
  go_wp2
  exact bodyPost_ret (v := plV false ⟨6, a, 0, emp, names, []⟩ (.slice A (strs names).length c) (.slice (some ⟨w.heap.size + 1, 0, none⟩) 1 1) .nilFunc) (by simp [plV, num, LX.emp, results, Tryz.results82, go_sem]) rfl ⟨_, rfl, HI.out _ _ (by decide), ((MM.Far.refl [] w).alloc _).alloc _⟩
theorem definition_any (a : Int) (s : ByteArray) {vb : Value} {b : Pt} (hb : Is w Z q vb b) :
    Calls Tryz.prog 87 #[num a, .string s, vb] w (PlanQ w Z q (definition a s b)) := by
  obtain ⟨fb, lb, rfl⟩ := hb.func
  have HI : Hid (∀ o1 (o2 : TypeId), 3 ≠ o2 → IsPl ((w.alloc o1).alloc (.cells #[.func (.func fb) #[] lb] o2)) Z q (plV false ⟨9, a, 0, s, [], []⟩ (.slice none 0 0) (.slice (some ⟨w.heap.size + 1, 0, none⟩) 1 1) .nilFunc) (definition a s b)) :=
    Lib.hid (fun o1 o2 ho2 => ⟨_, _, _, rfl, Sl.nil _ _, sl_new (w := w.alloc o1) o2 [.func (.func fb) #[] lb] (sz_alloc w o1) rfl (by decide) (z_alloc hz) (.inl ho2), ((hb.alloc o1).alloc _).snoc0 (Iss.nil _ _ _)⟩)
  clear hb hz
  unfold num
  go_enter Tryz.func87, Tryz.ntmps87
  go_wp2
  exact bodyPost_ret (v := plV false ⟨9, a, 0, s, [], []⟩ (.slice none 0 0) (.slice (some ⟨w.heap.size + 1, 0, none⟩) 1 1) .nilFunc) (by simp [plV, num, results, Tryz.results87, go_sem]) rfl ⟨_, rfl, HI.out _ _ (by decide), ((MM.Far.refl [] w).alloc _).alloc _⟩
end
/-- A plan that is none yet. -/
def zP : Obj := .cells #[.bool false, .int .u8 0, .int .i64 0, .int .i64 0, .int .i64 0, .string ⟨#[]⟩, .slice none 0 0, .int .u64 0, .slice none 0 0, .slice none 0 0, .nilFunc] 78
section
variable (w : World) {Z : List Nat} (q : Nat)
theorem wrong_any (a : Int) : Calls Tryz.prog 55 #[num a] w (PlanQ w Z q (.bad a)) := by
  unfold num
  go_enter Tryz.func55, Tryz.ntmps55
  go_wp2
  exact bodyPost_ret (v := plV true (frm 0 a 0) (.slice none 0 0) (.slice none 0 0) .nilFunc) (by simp [plV, num, frm, LX.emp, results, Tryz.results55, go_sem]) rfl ⟨_, rfl, rfl, (MM.Far.refl [] w).alloc _⟩
/-- What a part of a number, and of a bool, comes to. -/
theorem tr_call {ba bn : Nat} {a n : Int} (h1 : Bx w Z ba 3 (num a)) (h2 : Bx w Z bn 3 (num n)) : Calls Tryz.prog 100 #[ptr ba, ptr bn] w (PlanQ w Z q (truth a n)) := by
  have c1 := (h1.alloc zP).at
  have c2 := (h2.alloc zP).at
  clear h1 h2
  unfold num zP at c1 c2
  unfold ptr
  go_enter Tryz.func100, Tryz.ntmps100
  go_wp2
  exact bodyPost_ret (v := plV false (frm 2 a n) (.slice none 0 0) (.slice none 0 0) .nilFunc) (by simp [plV, num, frm, LX.emp, results, Tryz.results100, go_sem]) rfl ⟨_, rfl, ⟨_, _, _, rfl, Sl.nil _ _, Sl.nil _ _, Iss.nil _ _ _⟩, (MM.Far.refl [] w).alloc _⟩
end
end EW
end Go.Proofs.YtaghlpolljaedaaGreat
/-
  What the parts of layer 8 read: the data, and the map of shapes; what is looked up in it. No condition.
-/
namespace Go.Proofs.YtaghlpolljaedaaGreat
open Go.RowKit
namespace EW
open LX SX RW6 EX
open RX (Nd)
/-- A row of data, wherever it lies; each with its list, and that list's room. -/
def NdR (w : World) (A : Option Addr) (ns : List Nd) : Prop :=
  ∀ (k : Nat) (h : k < ns.length), ∃ b o LA c, A = some ⟨b, o, none⟩ ∧ b < w.heap.size ∧ w.cell? ⟨b, o + k * 5, none⟩ = some (.int .u8 ns[k].kind) ∧ w.cell? ⟨b, o + k * 5 + 1, none⟩ = some (.int .i64 ns[k].at_) ∧
    w.cell? ⟨b, o + k * 5 + 2, none⟩ = some (.int .i64 ns[k].n) ∧ w.cell? ⟨b, o + k * 5 + 3, none⟩ = some (.string ns[k].s) ∧ w.cell? ⟨b, o + k * 5 + 4, none⟩ = some (.slice LA ns[k].l.length c) ∧ ns[k].l.length ≤ c ∧ c ≤ maxLen ∧ IntRow w LA ns[k].l
theorem NdR.far {w w' : World} {A : Option Addr} {ns : List Nd} (h : NdR w A ns) (f : MM.Far [] w w') : NdR w' A ns := by
  intro k hk
  obtain ⟨b, o, LA, c, e, hb, c0, c1, c2, c3, c4, k1, k2, hI⟩ := h k hk
  have g (x : Nat) : w'.cell? ⟨b, x, none⟩ = w.cell? ⟨b, x, none⟩ := f.cell (p := ⟨b, x, none⟩) hb (by simp)
  exact ⟨b, o, LA, c, e, Nat.lt_of_lt_of_le hb f.size, (g _).trans c0, (g _).trans c1, (g _).trans c2, (g _).trans c3, (g _).trans c4, k1, k2, hI.far f⟩
/-! ### the map -/
def most (s : ByteArray) : Int := if s = nQuote then 1 else if s = nIf then 3 else if s = nSet then 2 else 9223372036854775807
inductive In (w : World) (Z : List Nat) (q : Nat) : ByteArray → Value → Prop where
  | quote : In w Z q nQuote (.func (.func 42) #[] #[])
  | iff : In w Z q nIf (.func (.func 43) #[ptr q] #[])
  | lambda : In w Z q nLambda (.func (.func 45) #[ptr q] #[])
  | set : In w Z q nSet (.func (.func 46) #[ptr q] #[])
  | begin {bx : Nat} (h : Bx w Z bx 44 (ptr q)) : In w Z q nBegin (.func (.func 47) #[] #[ptr bx])
  | define : In w Z q nDefine (.func (.func 49) #[ptr q] #[])
  | lett : In w Z q nLet (.func (.func 50) #[ptr q] #[])
  | star : In w Z q nStar (.func (.func 51) #[ptr q] #[])
  | cond {bx : Nat} (h : Bx w Z bx 44 (ptr q)) : In w Z q nCond (.func (.func 52) #[] #[ptr bx])
  | when {bx : Nat} (h : Bx w Z bx 44 (ptr q)) : In w Z q nWhen (.func (.func 60) #[] #[ptr bx])
  | unl {bx : Nat} (h : Bx w Z bx 44 (ptr q)) : In w Z q nUnless (.func (.func 64) #[] #[ptr bx])
inductive IsSh (w : World) (Z : List Nat) (q : Nat) : ByteArray → Value → Prop where
  | btw {s : ByteArray} {b1 b2 b3 : Nat} {v : Value} (h : In w Z q s v) (h1 : Bx w Z b1 3 (num (least s))) (h2 : Bx w Z b2 3 (num (most s))) (h3 : Bx w Z b3 85 v) :
      IsSh w Z q s (.func (.func 80) #[] #[ptr b1, ptr b2, ptr b3])
  | els : IsSh w Z q nElse (.func (.func 54) #[] #[])
  | and {bx : Nat} (h : Bx w Z bx 44 (ptr q)) : IsSh w Z q nAnd (.func (.func 56) #[] #[ptr bx])
  | or {bx : Nat} (h : Bx w Z bx 44 (ptr q)) : IsSh w Z q nOr (.func (.func 58) #[] #[ptr bx])
section
variable {w w' : World} {Z Z' S : List Nat} {q : Nat} {s : ByteArray} {v : Value}
theorem In.far (h : In w Z q s v) (f : MM.Far S w w') (hS : ∀ b ∈ S, b < w.heap.size → b ∈ Z) : In w' Z q s v := by
  cases h with
  | quote => exact .quote
  | iff => exact .iff
  | lambda => exact .lambda
  | set => exact .set
  | begin h => exact .begin (h.far f hS)
  | define => exact .define
  | lett => exact .lett
  | star => exact .star
  | cond h => exact .cond (h.far f hS)
  | when h => exact .when (h.far f hS)
  | unl h => exact .unl (h.far f hS)
theorem In.more (h : In w Z q s v) (hZ : ∀ b ∈ Z', b ∈ Z ∨ w.heap.size ≤ b) : In w Z' q s v := by
  cases h with
  | quote => exact .quote
  | iff => exact .iff
  | lambda => exact .lambda
  | set => exact .set
  | begin h => exact .begin (h.more hZ)
  | define => exact .define
  | lett => exact .lett
  | star => exact .star
  | cond h => exact .cond (h.more hZ)
  | when h => exact .when (h.more hZ)
  | unl h => exact .unl (h.more hZ)
theorem In.func (h : In w Z q s v) : ∃ f l m, v = .func (.func f) l m := by
  cases h <;> exact ⟨_, _, _, rfl⟩
theorem IsSh.far (h : IsSh w Z q s v) (f : MM.Far S w w') (hS : ∀ b ∈ S, b < w.heap.size → b ∈ Z) : IsSh w' Z q s v := by
  cases h with
  | btw h h1 h2 h3 => exact .btw (h.far f hS) (h1.far f hS) (h2.far f hS) (h3.far f hS)
  | els => exact .els
  | and h => exact .and (h.far f hS)
  | or h => exact .or (h.far f hS)
theorem IsSh.more (h : IsSh w Z q s v) (hZ : ∀ b ∈ Z', b ∈ Z ∨ w.heap.size ≤ b) : IsSh w Z' q s v := by
  cases h with
  | btw h h1 h2 h3 => exact .btw (h.more hZ) (h1.more hZ) (h2.more hZ) (h3.more hZ)
  | els => exact .els
  | and h => exact .and (h.more hZ)
  | or h => exact .or (h.more hZ)
end
/-- The map of shapes. -/
structure MapOk (w : World) (Z : List Nat) (q mb : Nat) : Prop where
  out : mb ∉ Z
  has : ∃ es clock, w.heap[mb]? = some (.map es clock) ∧ (∀ x ∈ es.toList, ∃ s, x.key = .string s ∧ reserved s = true ∧ IsSh w Z q s x.val) ∧ ∀ s, reserved s = true → ∃ x ∈ es.toList, x.key = .string s
section
variable {w w' : World} {Z Z' S : List Nat} {q mb : Nat}
theorem MapOk.lt (h : MapOk w Z q mb) : mb < w.heap.size := by
  obtain ⟨es, clock, hb, _⟩ := h.has
  exact (Array.getElem?_eq_some_iff.1 hb).1
theorem MapOk.far (h : MapOk w Z q mb) (f : MM.Far S w w') (hS : ∀ b ∈ S, b < w.heap.size → b ∈ Z) : MapOk w' Z q mb := by
  refine ⟨h.out, ?_⟩
  have hlt := h.lt
  obtain ⟨es, clock, hb, h1, h2⟩ := h.has
  refine ⟨es, clock, (f.block mb hlt (fun hm => h.out (hS _ hm hlt))).trans hb, fun x hx => ?_, h2⟩
  obtain ⟨s, e, r, i⟩ := h1 x hx
  exact ⟨s, e, r, i.far f hS⟩
theorem MapOk.more (h : MapOk w Z q mb) (hZ : ∀ b ∈ Z', b ∈ Z ∨ w.heap.size ≤ b) : MapOk w Z' q mb := by
  have hlt := h.lt
  obtain ⟨es, clock, hb, h1, h2⟩ := h.has
  refine ⟨fun hm => ?_, es, clock, hb, fun x hx => ?_, h2⟩
  · rcases hZ _ hm with h' | h'
    · exact h.out h'
    · omega
  · obtain ⟨s, e, r, i⟩ := h1 x hx
    exact ⟨s, e, r, i.more hZ⟩
/-- What is looked up: a shape, if the name is reserved. -/
theorem MapOk.look (h : MapOk w Z q mb) (s : ByteArray) : (reserved s = true ∧ ∃ v, IsSh w Z q s v ∧ (Instr.lookup 48 (.map (some mb)) (.string s) true).run Tryz.prog w = .ok (.tuple #[v, .bool true]) w) ∨
    (reserved s = false ∧ (Instr.lookup 48 (.map (some mb)) (.string s) true).run Tryz.prog w = .ok (.tuple #[.nilFunc, .bool false]) w) := by
  obtain ⟨es, clock, hb, h1, h2⟩ := h.has
  have hm := Tryz.underlying48
  have hk := Tryz.underlying9
  have hkey : MapKept.IsKey .string (.string s) := by simp [MapKept.IsKey]
  have hc := MapKept.run_checkKey (w := w) hk hkey es.isEmpty 9999
  have hall : ∀ x ∈ es.toList, MapKept.IsKey .string x.key := fun x hx => by
    obtain ⟨s', e, _⟩ := h1 x hx
    rw [e]; simp [MapKept.IsKey]
  rcases MapKept.findNow_spec hkey es.toList 0 hall with ⟨g1, g2⟩ | ⟨j, e, g1, g2, g3⟩
  · right
    refine ⟨?_, ?_⟩
    · cases hr : reserved s with
      | false => rfl
      | true =>
        obtain ⟨x, hx, ex⟩ := h2 s hr
        exact absurd ex (g2 x hx)
    · simp [Instr.lookup, run_underlying hm, MapKept.run_getObj_map hb, hc, MapKept.run_findKey hk g1, Result.andThen]
  · left
    obtain ⟨s', e', r, i⟩ := h1 e (List.mem_of_getElem? g2)
    rw [g3] at e'
    injection e' with e'
    subst e'
    refine ⟨r, e.val, i, ?_⟩
    simp [Instr.lookup, run_underlying hm, MapKept.run_getObj_map hb, hc, MapKept.run_findKey hk g1, Result.andThen]
end
/-- What is read, and stays: the expander's data and its map. -/
structure Env (w0 w : World) (Z : List Nat) (q : Nat) (dv : Value) (mb : Nat) : Prop where
  far : MM.Far [] w0 w
  low : ∀ b ∈ Z, w0.heap.size ≤ b
  z : ∀ b ∈ Z, b < w.heap.size
  c0 : w.cell? ⟨q, 0, none⟩ = some dv
  c1 : w.cell? ⟨q, 1, none⟩ = some (.map (some mb))
  map : MapOk w Z q mb
section
variable {w0 w w' : World} {Z : List Nat} {q mb : Nat} {dv : Value}
theorem Env.lt (h : Env w0 w Z q dv mb) : q < w.heap.size := MR.cell_lt h.c0
theorem Env.to (h : Env w0 w Z q dv mb) (f : MM.Far [] w w') : Env w0 w' Z q dv mb :=
  ⟨h.far.trans f (by simp), h.low, z_far h.z f, (f.cell (p := ⟨q, 0, none⟩) h.lt (by simp)).trans h.c0, (f.cell (p := ⟨q, 1, none⟩) h.lt (by simp)).trans h.c1, h.map.far f (by simp)⟩
/-- The datum at i, as it lies. -/
theorem Env.dat {DA : Option Addr} {n c : Nat} {ns : List Nd} (h : Env w0 w Z q (.slice DA n c) mb) (hN : NdR w0 DA ns) {i : Nat} (hi : i < ns.length) : ∃ b o LA lc, DA = some ⟨b, o, none⟩ ∧ b < w0.heap.size ∧ w.cell? ⟨b, o + i * 5, none⟩ = some (.int .u8 (ndAt ns i).kind) ∧
    w.cell? ⟨b, o + i * 5 + 1, none⟩ = some (.int .i64 (ndAt ns i).at_) ∧ w.cell? ⟨b, o + i * 5 + 2, none⟩ = some (.int .i64 (ndAt ns i).n) ∧ w.cell? ⟨b, o + i * 5 + 3, none⟩ = some (.string (ndAt ns i).s) ∧
    w.cell? ⟨b, o + i * 5 + 4, none⟩ = some (.slice LA (ndAt ns i).l.length lc) ∧ Sl w Z (.slice LA (ndAt ns i).l.length lc) (ints (ndAt ns i).l) := by
  have e : ndAt ns i = ns[i] := by
    unfold ndAt
    rw [List.getD_eq_getElem?_getD, List.getElem?_eq_getElem hi]; rfl
  rw [e]
  obtain ⟨b, o, LA, lc, ea, hb, c0, c1, c2, c3, c4, k1, k2, hI⟩ := hN i hi
  have g (x : Nat) : w.cell? ⟨b, x, none⟩ = w0.cell? ⟨b, x, none⟩ := h.far.cell (p := ⟨b, x, none⟩) hb (by simp)
  refine ⟨b, o, LA, lc, ea, hb, (g _).trans c0, (g _).trans c1, (g _).trans c2, (g _).trans c3, (g _).trans c4, ?_⟩
  have hlen : (ints ns[i].l).length = ns[i].l.length := by unfold ints; rw [List.length_map]
  refine ⟨LA, lc, by rw [hlen], by rw [hlen]; exact k1, ⟨k2, fun _ _ _ _ _ _ _ u hu => by unfold ints at hu; obtain ⟨x, _, rfl⟩ := List.mem_map.1 hu; exact ⟨_, rfl⟩⟩, fun k u hu => ?_⟩
  have hk : k < ns[i].l.length := by have := (List.getElem?_eq_some_iff.1 hu).1; omega
  obtain ⟨b', o', e', hb', hc'⟩ := hI k hk
  refine ⟨b', o', e', fun hm => ?_, Nat.lt_of_lt_of_le hb' h.far.size, ?_⟩
  · have := h.low b' hm; omega
  · rw [h.far.cell (p := ⟨b', o' + k, none⟩) hb' (by simp), hc']
    unfold ints at hu
    rw [List.getElem?_map, List.getElem?_eq_getElem hk] at hu
    exact hu
end
end EW
end Go.Proofs.YtaghlpolljaedaaGreat
/-
  Contracts of the code's calls that read data: names, rows of names, pairs, rows of parts. Conditions: sizes.
-/
namespace Go.Proofs.YtaghlpolljaedaaGreat
open Go.RowKit
namespace EW
open LX SX RW6 EX
open RX (Nd)
theorem size_zero {s : ByteArray} (h : s.size = 0) : s = ⟨#[]⟩ := by
  apply ByteArray.ext
  apply Array.toList_inj.1
  exact List.eq_nil_of_length_eq_zero (by rw [Array.length_toList]; exact h)
theorem toList_ne {s : ByteArray} (h : s.size ≠ 0) : ¬ s.toList = [] := by
  rw [Lib.toList_data]
  intro e
  have := congrArg List.length e
  rw [Array.length_toList] at this
  exact h this
theorem beq_list {s x : ByteArray} (h : ¬ s = x) : (s.toList == x.toList) = false := by
  rw [beq_eq_false_iff_ne, Lib.toList_data, Lib.toList_data]
  intro e
  exact h (ByteArray.ext (Array.toList_inj.1 e))
theorem idx_first {l : List ByteArray} {s : ByteArray} : ∀ {k : Nat}, l[k]? = some s → (∀ j, j < k → l[j]? ≠ some s) → l.idxOf s = k := by
  induction l with
  | nil => intro k h; simp at h
  | cons x l ih =>
    intro k h hno
    cases k with
    | zero => simp at h; subst h; simp
    | succ k =>
      have hx : x ≠ s := fun e => hno 0 (by omega) (by simp [e])
      rw [List.idxOf_cons, ih (by simpa using h) (fun j hj => by have := hno (j + 1) (by omega); simpa using this)]
      have : (x == s) = false := by rw [beq_eq_false_iff_ne]; exact hx
      rw [this]; rfl
section
variable {w0 w : World} {Z : List Nat} {q mb : Nat} {dv : Value}
theorem reserved_any (h : Env w0 w Z q dv mb) (s : ByteArray) : Calls Tryz.prog 21 #[ptr q, .string s] w fun e w' => e = .returned (.bool (reserved s)) ∧ w = w' := by
  have c1 := h.c1
  have hL := h.map.look s
  unfold ptr
  clear h
  rcases hL with ⟨hr, v, _, hl⟩ | ⟨hr, hl⟩
  · rw [hr]
    go_enter Tryz.func21, Tryz.ntmps21
    go_wp2
    go_ret
    exact ⟨rfl, rfl⟩
  · rw [hr]
    go_enter Tryz.func21, Tryz.ntmps21
    go_wp2
    go_ret
    exact ⟨rfl, rfl⟩
end
section
variable {w0 w : World} {Z : List Nat} {q mb : Nat} {DA : Option Addr} {n c : Nat} {ns : List Nd}
theorem name_any (h : Env w0 w Z q (.slice DA n c) mb) (hN : NdR w0 DA ns) (hn : ns.length = n) (hs : ∀ i, (ndAt ns i).s.size ≤ 140737488355328) {i : Nat} (hi : i < n) : Calls Tryz.prog 83 #[ptr q, num i] w fun e w' =>
    e = .returned (match nameOf ns i with | none => .tuple #[.string ⟨#[]⟩, .bool false] | some s => .tuple #[.string s, .bool true]) ∧ MM.Far [] w w' := by
  have c0 := h.c0
  obtain ⟨b, o, LA, lc, rfl, hb0, d0, d1, d2, d3, d4, _⟩ := h.dat hN (i := i) (by omega)
  have hb : b < w.heap.size := Nat.lt_of_lt_of_le hb0 h.far.size
  have hR := Lib.hid (reserved_any h (ndAt ns i).s)
  have HC := Lib.hid (MC.clone_any (ndAt ns i).s w (hs i))
  unfold nameOf
  generalize (ndAt ns i).s = s at *
  have hi0 : (0 : Int) ≤ (i : Int) := by omega
  have hi1 : (i : Int) < (n : Int) := by omega
  clear h hN hn hs hb0 d0 d1 d2 d4 hb
  unfold ptr at hR
  unfold ptr num
  by_cases he : s = ⟨#[]⟩
  · subst he
    rw [if_pos (.inl rfl)]
    go_enter Tryz.func83, Tryz.ntmps83
    go_wp2
    go_ret2
    exact ⟨rfl, MM.Far.refl [] w⟩
  · have hb1 : ¬ s.toList = [] := toList_ne (fun h => he (size_zero h))
    have hb2 : s.toList.isEmpty = false := by simpa using hb1
    cases hr : reserved s with
    | true =>
      rw [hr] at hR
      rw [if_pos (.inr rfl)]
      clear HC
      go_enter Tryz.func83, Tryz.ntmps83
      go_wp2_with (go_at_call 21; refine hR.out.mono ?_; rintro e w1 ⟨rfl, rfl⟩)
      go_ret2
      exact ⟨rfl, MM.Far.refl [] w⟩
    | false =>
      rw [hr] at hR
      rw [if_neg (by rintro (h | h); exact he h; cases h)]
      go_enter Tryz.func83, Tryz.ntmps83
      go_wp2_with (first
        | (go_at_call 21; refine hR.out.mono ?_; rintro e w1 ⟨rfl, rfl⟩)
        | (go_at_call 65; refine HC.out.mono ?_; rintro e w2 ⟨rfl, hF2⟩; have HF2 := Lib.hid hF2; clear hF2))
      go_ret2
      exact ⟨rfl, HF2.out⟩
/-- Where the text comes first. -/
def idxI (s : ByteArray) (l : List ByteArray) : Int := if s ∈ l then (l.idxOf s : Int) else -1
theorem index_any (w : World) {Z : List Nat} {A : Option Addr} {n c : Nat} {l : List ByteArray} (h : Sl w Z (.slice A n c) (strs l)) (hn : l.length = n) (hm : n ≤ 100000) (s : ByteArray) : Calls Tryz.prog 110 #[.slice A n c, .string s] w fun e w' =>
    e = .returned (.int .i64 (idxI s l)) ∧ MM.Far [] w w' := by
  have HS := Lib.hid h
  have HN := Lib.hid hn
  clear h hn
  go_enter Tryz.func110, Tryz.ntmps110
  go_wp2
  have HD0 : Hid (∃ d, w = w.drewN d) := Lib.hid ⟨0, rfl⟩
  go_loopw [8] (fun i wr => ∃ k : Nat, k ≤ n ∧ i = .int .i64 (k : Int) ∧ Hid ((∀ j, j < k → l[j]? ≠ some s) ∧ ∃ d, wr = w.drewN d)) (fun i _ => n - (intOf i).toNat)
  case atStart => exact ⟨0, by omega, rfl, Lib.hid ⟨fun j hj => by omega, HD0.out⟩⟩
  case round =>
    obtain ⟨k, hk, rfl, hH⟩ := hrel
    obtain ⟨hno, d, hd⟩ := hH.out
    have HF := Lib.hid (show MM.Far [] w wr from hd ▸ (MM.Far.refl [] w).drewN d)
    have HE := Lib.hid hd
    have HNO := Lib.hid hno
    clear hd hH hno HD0
    by_cases hlt : k < n
    · have hk2 : k < l.length := by rw [HN.out]; exact hlt
      obtain ⟨A', c', e, hc1, hc2, hc3⟩ := HS.out.far HF.out (by simp)
      injection e with e1 e2 e3
      subst e1 e3
      obtain ⟨g, o, rfl, hz, hg, cc⟩ := hc3 k (.string l[k]) (by unfold strs; rw [List.getElem?_map, List.getElem?_eq_getElem hk2]; rfl)
      have HL : Hid (l[k]? = some l[k]) := Lib.hid (List.getElem?_eq_getElem hk2)
      generalize l[k] = x at *
      clear hk2 e2 hc1 hc2 hc3 hz hg
      by_cases hx : s = x
      · subst hx
        have HEQ : Hid (s ∈ l ∧ l.idxOf s = k) := Lib.hid ⟨List.mem_of_getElem? HL.out, idx_first HL.out HNO.out⟩
        go_wp2
        go_ret
        refine ⟨?_, HF.out⟩
        unfold idxI
        rw [if_pos HEQ.out.1, HEQ.out.2]
        rfl
      · have hx1 := beq_list hx
        go_wp2
        go_roundw
        case rel => exact ⟨k + 1, by omega, by go_num, Lib.hid ⟨fun j hj => by
          by_cases hjk : j = k
          · subst hjk; rw [HL.out]; simp only [ne_eq, Option.some.injEq]; exact fun e => hx e.symm
          · exact HNO.out j (by omega), d, HE.out⟩⟩
        case measure => simp [intOf]; omega
    · obtain rfl : k = n := by omega
      have HEQ : Hid (s ∉ l) := Lib.hid (fun hm => by
        obtain ⟨j, hj, e⟩ := List.getElem_of_mem hm
        exact HNO.out j (by rw [HN.out] at hj; exact hj) (by rw [List.getElem?_eq_getElem hj, e]))
      go_wp2
      go_ret
      refine ⟨?_, HF.out⟩
      unfold idxI
      rw [if_neg HEQ.out]
      rfl
theorem contains_any (w : World) {Z : List Nat} {A : Option Addr} {n c : Nat} {l : List ByteArray} (h : Sl w Z (.slice A n c) (strs l)) (hn : l.length = n) (hm : n ≤ 100000) (s : ByteArray) : Calls Tryz.prog 105 #[.slice A n c, .string s] w fun e w' =>
    e = .returned (.bool (decide (s ∈ l))) ∧ MM.Far [] w w' := by
  have HI := Lib.hid (index_any w h hn hm s)
  clear h hn
  unfold idxI at HI
  by_cases hs : s ∈ l
  · rw [if_pos hs] at HI
    have e : decide (s ∈ l) = true := by simp [hs]
    rw [e]
    have h0 : (0 : Int) ≤ (l.idxOf s : Int) := by omega
    generalize (l.idxOf s : Int) = k at *
    go_enter Tryz.func105, Tryz.ntmps105
    go_wp2_with (go_at_call 110; refine HI.out.mono ?_; rintro e w1 ⟨rfl, hF1⟩; have HF1 := Lib.hid hF1; clear hF1)
    go_ret
    exact ⟨rfl, HF1.out⟩
  · rw [if_neg hs] at HI
    have e : decide (s ∈ l) = false := by simp [hs]
    rw [e]
    go_enter Tryz.func105, Tryz.ntmps105
    go_wp2_with (go_at_call 110; refine HI.out.mono ?_; rintro e w1 ⟨rfl, hF1⟩; have HF1 := Lib.hid hF1; clear hF1)
    go_ret
    exact ⟨rfl, HF1.out⟩
/-- A text more in a row of texts of the call's own. -/
theorem str_push {ops : Array Oper} {rest : List Oper} {o : Oper} {a : Act} {Q : Exit → Act → World → Prop} {base : Nat} {w : World} {v : Value} {l : List ByteArray} {s : ByteArray}
    (hO : w.ownsRow base 9 1 v l.length (strs l)) (hb : base ≤ w.heap.size) (hl : l.length ≤ 1099511627776) (hgd : o.guard = none) (x y : Operand)
    (ho : o.op = .call { callee := .builtin .append, args := #[x, y], argTypes := #[37, 37] })
    (hs : a.eval x = v) (hx : a.eval y = .slice (some ⟨w.heap.size, 0, none⟩) 1 1)
    (h : ∀ A c w', w'.ownsRow base 9 1 (.slice A (l.length + 1) c) (l ++ [s]).length (strs (l ++ [s])) → MM.Far v.ownBlock.toList w w' → wpList Tryz.prog ops Q rest (a.put o.dst (.slice A (l.length + 1) c)) w') :
    wpList Tryz.prog ops Q (o :: rest) a (w.alloc (.cells #[.string s] 9)) := by
  have hF : MM.Far [] w (w.alloc (.cells #[.string s] 9)) := (MM.Far.refl [] w).alloc _
  have hsl : Tryz.prog.underlying 37 = some (.slice 9) := by kernel_rfl
  have hinf : (Tryz.prog.info? 9).map (fun i => (i.zero, i.size, i.bytes)) = some (some (.string ⟨#[]⟩), 1, 16) := by kernel_rfl
  refine MO.wpList_append _ hgd x y 37 ho base 9 (.string ⟨#[]⟩) 1 16 hsl hinf rfl (by omega) v l.length (strs l) hs (MM.own_far hO hF (by simp)) (some ⟨w.heap.size, 0, none⟩) 1 1 [.string s] hx rfl (fun h => by cases h) [] ?_ ?_ ?_ ?_ (by have := hF.size; omega) ?_
  · exact MM.Src.row (MM.Row.new w 9 [.string s]) (by simp) _ (fun j u hu => hu)
  · intro u hu
    rw [List.mem_singleton] at hu
    subst hu
    rfl
  · simp only [maxLen]; omega
  · omega
  · intro v' w' hv hg hat
    obtain ⟨A, c, rfl, _⟩ := MO.form hv
    refine h A c w' ?_ (((MM.Far.refl v.ownBlock.toList w).alloc _).trans (MM.Far.of_grown (S := v.ownBlock.toList) hg (by intro k hk _; simp [hk])) (fun k hk _ => hk))
    rw [List.length_append, List.length_singleton]
    show w'.ownsRow base _ 1 _ _ ((l ++ [s]).map .string)
    rw [List.map_append]
    exact hv
end
section
variable {w0 w : World} {Z : List Nat} {q mb : Nat} {DA : Option Addr} {n c : Nat} {ns : List Nd}
/-- At the head of a round over names: so many are there. -/
def NamesI (w0 w : World) (Z : List Nat) (q mb : Nat) (dv v : Value) (acc : List ByteArray) (wr : World) : Prop :=
  Env w0 wr Z q dv mb ∧ MM.Far [] w wr ∧ wr.ownsRow w.heap.size 9 1 v acc.length (strs acc)
def namesR (names : Option (List ByteArray)) (w' : World) (Z : List Nat) (e : Ending) : Prop := match names with
  | none => e = .returned (.tuple #[.slice none 0 0, .bool false])
  | some l => ∃ v, e = .returned (.tuple #[v, .bool true]) ∧ Sl w' Z v (strs l)
set_option maxHeartbeats 2000000 in
set_option maxRecDepth 20000 in
theorem names_any (h : Env w0 w Z q (.slice DA n c) mb) (hN : NdR w0 DA ns) (hn : ns.length = n) (hs : ∀ i, (ndAt ns i).s.size ≤ 140737488355328) {A : Option Addr} {m lc : Nat} {l : List Nat} (hl : Sl w Z (.slice A m lc) (ints l)) (hm : l.length = m) (hin : ∀ i ∈ l, i < ns.length) :
    Calls Tryz.prog 81 #[ptr q, .slice A m lc] w fun e w' => namesR (namesOf ns l) w' Z e ∧ MM.Far [] w w' := by
  have HL := Lib.hid hl
  have HM := Lib.hid hm
  have HIN := Lib.hid hin
  have HZ := Lib.hid h.z
  have HENV := Lib.hid h
  have HR : Hid (namesG ns l [] = namesOf ns l) := Lib.hid rfl
  have hmx : m ≤ maxLen := by
    obtain ⟨A', c', e, h1, h2, _⟩ := hl
    injection e with _ e _
    omega
  have HNM := Lib.hid (fun (w' : World) (h' : Env w0 w' Z q (.slice DA n c) mb) (i : Nat) (hi : i < n) => name_any h' hN hn hs hi)
  have HN := Lib.hid hn
  have HI0 : Hid (NamesI w0 w Z q mb (.slice DA n c) (.slice none 0 0) [] w) := Lib.hid ⟨h, MM.Far.refl [] w, MO.none_ _ _ _ _⟩
  generalize namesOf ns l = R at *
  clear h hN hn hl hm hin
  unfold maxLen at hmx
  unfold ptr at HNM ⊢
  go_enter Tryz.func81, Tryz.ntmps81
  go_wp2
  go_loopw [6, 13] (fun s6 s13 wr => ∃ (k : Nat) (acc : List ByteArray) (B : Option Addr) (bc : Nat), k ≤ m ∧ s13 = .int .i64 (k : Int) ∧ s6 = .slice B acc.length bc ∧ acc.length ≤ 100 ∧ Hid (NamesI w0 w Z q mb (.slice DA n c) (.slice B acc.length bc) acc wr ∧ namesG ns (l.drop k) acc = R)) (fun s6 s13 _ => m - (intOf s13).toNat)
  case atStart => exact ⟨0, [], none, 0, by omega, rfl, rfl, by simp, Lib.hid ⟨HI0.out, HR.out⟩⟩
  case round =>
    obtain ⟨k, acc, B, bc, hk, rfl, rfl, hacc, hH⟩ := hrel
    obtain ⟨⟨hE, hF, hO⟩, hG⟩ := hH.out
    have HE := Lib.hid hE
    have HF := Lib.hid hF
    have HO := Lib.hid hO
    clear hE hF hO hH HI0 HR
    by_cases hlt : k < m
    · have hk2 : k < l.length := by rw [HM.out]; exact hlt
      obtain ⟨A', c', e, hc1, hc2, hc3⟩ := HL.out.far HF.out (by simp)
      injection e with e1 e2 e3
      subst e1 e3
      obtain ⟨g, o, rfl, hz, hg, cc⟩ := hc3 k (.int .i64 ((l[k] : Nat) : Int)) (by unfold ints; rw [List.getElem?_map, List.getElem?_eq_getElem hk2]; rfl)
      have hix : l[k] < n := by rw [← HN.out]; exact HIN.out _ (List.getElem_mem hk2)
      rw [List.drop_eq_getElem_cons hk2] at hG
      generalize l[k] = i at *
      unfold namesG at hG
      have HC := Lib.hid (HNM.out wr HE.out i hix)
      clear hk2 e2 hc1 hc2 hc3 hz hg
      generalize nameOf ns i = x at *
      cases x with
      | none =>
        have HG : Hid (none = R) := Lib.hid hG
        clear hG
        go_wp2_with (go_at_call 83; refine HC.out.mono ?_; rintro e w1 ⟨rfl, hF1⟩; have HF1 := Lib.hid hF1; clear hF1)
        go_ret2
        refine ⟨?_, HF.out.trans HF1.out (by simp)⟩
        rw [← HG.out]
        rfl
      | some s =>
        simp only at hG
        by_cases h100 : acc.length = 100
        · have HG : Hid (none = R) := Lib.hid (by rw [if_pos (.inl h100)] at hG; exact hG)
          clear hG
          have hd1 : ((acc.length : Nat) : Int) = 100 := by omega
          go_wp2_with (go_at_call 83; refine HC.out.mono ?_; rintro e w1 ⟨rfl, hF1⟩; have HF1 := Lib.hid hF1; clear hF1)
          go_ret2
          refine ⟨?_, HF.out.trans HF1.out (by simp)⟩
          rw [← HG.out]
          rfl
        · have hd1 : ¬ ((acc.length : Nat) : Int) = 100 := by omega
          have hd2 : decide (((acc.length : Nat) : Int) = 100) = false := by simp [hd1]
          have hOL := HO.out
          have hCon := Lib.hid (fun (w1 : World) (f : MM.Far [] wr w1) => contains_any (l := acc) (n := acc.length) (A := B) (c := bc) (Z := []) w1 ((Sl.own HO.out (by simp)).far f (by simp)) rfl (by omega) s)
          clear hOL
          by_cases hmem : s ∈ acc
          · have HG : Hid (none = R) := Lib.hid (by rw [if_pos (.inr hmem)] at hG; exact hG)
            have hdm : decide (s ∈ acc) = true := by simp [hmem]
            rw [hdm] at hCon
            clear hG hmem hdm
            go_wp2_with (first
              | (go_at_call 83; refine HC.out.mono ?_; rintro e w1 ⟨rfl, hF1⟩; have HF1 := Lib.hid hF1; clear hF1)
              | (go_at_call 105; refine (hCon.out _ HF1.out).mono ?_; rintro e w2 ⟨rfl, hF2⟩; have HF2 := Lib.hid hF2; clear hF2))
            go_ret2
            refine ⟨?_, (HF.out.trans HF1.out (by simp)).trans HF2.out (by simp)⟩
            rw [← HG.out]
            rfl
          · have HG : Hid (namesG ns (l.drop (k + 1)) (acc ++ [s]) = R) := Lib.hid (by rw [if_neg (by rintro (h | h); exact h100 h; exact hmem h)] at hG; exact hG)
            have hdm : decide (s ∈ acc) = false := by simp [hmem]
            rw [hdm] at hCon
            clear hG hmem hdm
            have HB : Hid (w.heap.size ≤ wr.heap.size) := Lib.hid HF.out.size
            go_wp2_with (first
              | (go_at_call 83; refine HC.out.mono ?_; rintro e w1 ⟨rfl, hF1⟩; have HF1 := Lib.hid hF1; clear hF1)
              | (go_at_call 105; refine (hCon.out _ HF1.out).mono ?_; rintro e w2 ⟨rfl, hF2⟩; have HF2 := Lib.hid hF2; clear hF2)
              | (at_builtin; refine str_push (base := w.heap.size) (l := acc) (s := s) (MM.own_far (MM.own_far HO.out HF1.out (by simp)) HF2.out (by simp)) (Nat.le_trans HB.out (Nat.le_trans HF1.out.size HF2.out.size)) (by omega) rfl (.tmp 35) (.tmp 37) rfl rfl rfl ?_; intro B3 c3 w3 hO3 hF3; have HO3 := Lib.hid hO3; have HF3 := Lib.hid hF3; clear hO3 hF3))
            have HF4 : Hid (MM.Far [] w w3) := Lib.hid ((((HF.out.trans HF1.out (by simp)).trans HF2.out (by simp))).trans HF3.out (fun b hb hl => by
              have h1 := (MM.own_lt HO.out b (by simpa using hb)).2
              omega))
            go_roundw
            case rel => exact ⟨k + 1, acc ++ [s], B3, c3, by omega, by go_num, by simp, by simp; omega, Lib.hid ⟨⟨HENV.out.to HF4.out, HF4.out, by simpa using HO3.out⟩, HG.out⟩⟩
            case measure => simp [intOf]; omega
    · obtain rfl : k = m := by omega
      rw [List.drop_of_length_le (by rw [HM.out]; exact Nat.le_refl _)] at hG
      simp only [namesG] at hG
      have HG := Lib.hid hG
      clear hG
      go_wp2
      go_ret2
      refine ⟨?_, HF.out⟩
      rw [← HG.out]
      exact ⟨_, rfl, Sl.own HO.out (fun b hb hm => by
        have h1 := (MM.own_lt HO.out b hb).2
        have h2 := HZ.out b hm
        omega)⟩
end
end EW
end Go.Proofs.YtaghlpolljaedaaGreat
/-
  Contracts of the code's calls that make rows of parts: pairs, all, body, call. Conditions: sizes.
-/
namespace Go.Proofs.YtaghlpolljaedaaGreat
open Go.RowKit
namespace EW
open LX SX RW6 EX
open RX (Nd)
theorem made_list (z : Value) (n : Nat) : madeCells #[z] n = (List.replicate n z).toArray := by
  apply Array.ext
  · simp [size_madeCells]
  · intro i h1 h2
    simp [madeCells, Nat.mod_one]
def PartsQ (w : World) (Z : List Nat) (q : Nat) (ps : List Pt) (e : Ending) (w' : World) : Prop := ∃ g m vs, e = .returned (.slice (some ⟨g, 0, none⟩) m m) ∧ m = ps.length ∧ Sl w' Z (.slice (some ⟨g, 0, none⟩) m m) vs ∧ Iss w' Z q vs ps ∧ MM.Far [] w w'
theorem parts_slice : Tryz.prog.underlying 76 = some (.slice 75) := by kernel_rfl
theorem part_info : (Tryz.prog.info? 75).map (fun i => (i.zero, i.size, i.bytes)) = some (some .nilFunc, 1, 8) := by kernel_rfl
/-- At the head of a round over parts. -/
def AllI (w : World) (Z : List Nat) (q b : Nat) (l : List Nat) (k : Nat) (wr : World) : Prop :=
  ∃ vs, vs.length = k ∧ MM.Row wr b 75 (vs ++ List.replicate (l.length - k) .nilFunc) ∧ Iss wr (b :: Z) q vs ((l.take k).map .dat) ∧ MM.Far [] w wr ∧ w.heap.size ≤ b
set_option maxHeartbeats 2000000 in
set_option maxRecDepth 20000 in
theorem all_any (w : World) {Z : List Nat} (q : Nat) (hz : ∀ b ∈ Z, b < w.heap.size) {A : Option Addr} {m lc : Nat} {l : List Nat} (hl : Sl w Z (.slice A m lc) (ints l)) (hm : l.length = m) (hmx : m ≤ 1099511627776) :
    Calls Tryz.prog 85 #[ptr q, .slice A m lc] w (PartsQ w Z q (l.map .dat)) := by
  have HL := Lib.hid hl
  have HM := Lib.hid hm
  have HZ := Lib.hid hz
  clear hl hm hz
  unfold ptr
  go_enter Tryz.func85, Tryz.ntmps85
  have hmk := run_make_row' (P := Tryz.prog) 76 75 .nilFunc 8 parts_slice part_info rfl .i64 .i64 m (by omega) (by omega)
  rw [made_list] at hmk
  go_wp2
  clear hmk
  have HI0 : Hid (AllI w Z q w.heap.size l 0 (w.alloc (.cells (List.replicate m .nilFunc).toArray 75))) := Lib.hid
    ⟨[], rfl, by rw [HM.out]; exact MM.Row.new w 75 (List.replicate m .nilFunc), Iss.nil _ _ _, (MM.Far.refl [] w).alloc _, Nat.le_refl _⟩
  obtain ⟨b, hb⟩ : ∃ b, w.heap.size = b := ⟨_, rfl⟩
  rw [hb] at HI0 ⊢
  have HB := Lib.hid hb
  clear hb
  go_loopw [13] (fun s13 wr => ∃ k : Nat, k ≤ m ∧ s13 = .int .i64 (k : Int) ∧ Hid (AllI w Z q b l k wr)) (fun s13 _ => m - (intOf s13).toNat)
  case atStart => exact ⟨0, by omega, rfl, HI0⟩
  case round =>
    obtain ⟨k, hk, rfl, hH⟩ := hrel
    obtain ⟨vs, hvs, hR, hI, hF, hb⟩ := hH.out
    clear hH HI0
    have HV := Lib.hid hvs
    have HR := Lib.hid hR
    have HI := Lib.hid hI
    have HF := Lib.hid hF
    have HBS := Lib.hid hb
    clear hvs hR hI hF hb
    by_cases hlt : k < m
    · have hk2 : k < l.length := by rw [HM.out]; exact hlt
      obtain ⟨A', c', e, hc1, hc2, hc3⟩ := HL.out.far HF.out (by simp)
      injection e with e1 e2 e3
      subst e1 e3
      obtain ⟨g, o, rfl, hz, hg, cc⟩ := hc3 k (.int .i64 ((l[k] : Nat) : Int)) (by unfold ints; rw [List.getElem?_map, List.getElem?_eq_getElem hk2]; rfl)
      have HT : Hid (l.take (k + 1) = l.take k ++ [l[k]]) := Lib.hid (by rw [List.take_add_one, List.getElem?_eq_getElem hk2]; rfl)
      have HC := Lib.hid (datum_any wr (Z := b :: Z) q (fun x hx => by
        rcases List.mem_cons.1 hx with rfl | hx
        · exact HR.out.lt
        · exact z_far HZ.out HF.out x hx) l[k])
      generalize l[k] = i at *
      clear hk2 e2 hc1 hc2 hc3 hz hg
      have HCK : Hid ((vs ++ List.replicate (l.length - k) Value.nilFunc)[k]? = some .nilFunc) := Lib.hid (by
        rw [List.getElem?_append_right (by rw [HV.out]; omega), HV.out, Nat.sub_self, List.getElem?_replicate, if_pos (by rw [HM.out]; omega)])
      unfold num ptr at HC
      go_wp2_with (go_at_call 62; refine HC.out.mono ?_; rintro e w1 ⟨v, rfl, hIv, hF1⟩; have HIv := Lib.hid hIv; have HF1 := Lib.hid hF1; clear hIv hF1; have HR1 := Lib.hid (HR.out.far HF1.out (by simp)); have hfz := HR1.out.frozen k; have hck := HR1.out.at (i := k) HCK.out; obtain ⟨vf, vl, rfl⟩ := HIv.out.func)
      go_roundw
      case rel =>
        refine ⟨k + 1, by omega, by go_num, Lib.hid ⟨vs ++ [.func (.func vf) #[] vl], by rw [List.length_append, HV.out]; rfl, ?_, ?_, ?_, HBS.out⟩⟩
        · have := HR1.out.put k (.func (.func vf) #[] vl)
          rw [List.set_append_right _ _ (by rw [HV.out]; omega), HV.out, Nat.sub_self, show l.length - k = (l.length - (k + 1)) + 1 by rw [HM.out]; omega, List.replicate_succ, List.set_cons_zero] at this
          rw [List.append_assoc]; exact this
        · rw [HT.out, List.map_append]
          have g := (MM.Far.refl [b] w1).setCell (p := ⟨b, k, none⟩) (by simp) (.func (.func vf) #[] vl)
          exact ((HI.out.far HF1.out (by simp)).far g (by simp)).snoc (HIv.out.far g (by simp))
        · exact (HF.out.trans HF1.out (by simp)).setCell (fun hl => by have := HBS.out; simp only at hl; omega) _
      case measure => simp [intOf]; omega
    · obtain rfl : k = m := by omega
      have HQ : Hid (PartsQ w Z q (l.map .dat) (.returned (.slice (some ⟨b, 0, none⟩) k k)) wr) := Lib.hid (by
        have hlen : vs.length = l.length := by rw [HV.out, HM.out]
        have hR := HR.out
        rw [HM.out, Nat.sub_self, List.replicate_zero, List.append_nil] at hR
        refine ⟨_, _, vs, rfl, by rw [List.length_map, HM.out], ?_, ?_, HF.out⟩
        · rw [← HV.out]
          exact Sl.row hR (fun hm => by have h1 := HZ.out b hm; have h2 := HBS.out; omega) (by rw [HV.out]; unfold maxLen; omega)
        · have := HI.out
          rw [← HM.out, List.take_length] at this
          exact this.more (fun x hx => .inl (List.mem_cons_of_mem _ hx)))
      go_wp2
      go_ret
      exact HQ.out
/-- What is slipped past a call that makes memory alone. -/
theorem far_cell {w w' : World} {p : Addr} {v : Value} (f : MM.Far [] w w') (h : w.cell? p = some v) : w'.cell? p = some v := (f.cell (MR.cell_lt h) (by simp)).trans h
theorem int_head {i : Nat} {l : List Nat} : ints (i :: l) = num i :: ints l := rfl
theorem str_head {s : ByteArray} {l : List ByteArray} : strs (s :: l) = .string s :: strs l := rfl
theorem ints_len (l : List Nat) : (ints l).length = l.length := by unfold ints; rw [List.length_map]
theorem strs_len (l : List ByteArray) : (strs l).length = l.length := by unfold strs; rw [List.length_map]
theorem keep2 {w w' : World} {p1 p2 : Addr} {v1 v2 : Value} (f : MM.Far [] w w') (h : w.cell? p1 = some v1 ∧ w.cell? p2 = some v2) : w'.cell? p1 = some v1 ∧ w'.cell? p2 = some v2 := ⟨far_cell f h.1, far_cell f h.2⟩
theorem keep3 {w w' : World} {p1 p2 p3 : Addr} {v1 v2 v3 : Value} (f : MM.Far [] w w') (h : w.cell? p1 = some v1 ∧ w.cell? p2 = some v2 ∧ w.cell? p3 = some v3) : w'.cell? p1 = some v1 ∧ w'.cell? p2 = some v2 ∧ w'.cell? p3 = some v3 := ⟨far_cell f h.1, keep2 f h.2⟩
theorem keep4 {w w' : World} {p1 p2 p3 p4 : Addr} {v1 v2 v3 v4 : Value} (f : MM.Far [] w w') (h : w.cell? p1 = some v1 ∧ w.cell? p2 = some v2 ∧ w.cell? p3 = some v3 ∧ w.cell? p4 = some v4) : w'.cell? p1 = some v1 ∧ w'.cell? p2 = some v2 ∧ w'.cell? p3 = some v3 ∧ w'.cell? p4 = some v4 := ⟨far_cell f h.1, keep3 f h.2⟩
set_option maxHeartbeats 2000000 in
theorem body_any (w : World) {Z : List Nat} (q : Nat) (hz : ∀ b ∈ Z, b < w.heap.size) (a : Int) {v : Value} {l : List Nat} (hl : Sl w Z v (ints l)) :
    Calls Tryz.prog 48 #[ptr q, num a, v] w (PartQ w Z q (body a l)) := by
  by_cases h1 : l.length = 1
  · obtain ⟨i, rfl⟩ : ∃ i, l = [i] := List.length_eq_one_iff.1 h1
    rw [int_head] at hl
    obtain ⟨g, o, c, rfl, hc, hc1, hc2, hg, hgz, _⟩ := hl.cons
    have hlen : (ints ([] : List Nat)).length = 0 := rfl
    rw [hlen] at hc1 ⊢
    clear h1 hl
    have B1 := ((bx_new 44 (ptr q) rfl hz).alloc (.cells #[num a] 3)).alloc (.cells #[.slice (some ⟨g, o, none⟩) (0 + 1) c] 23)
    have B3 := bx_new 23 (.slice (some ⟨g, o, none⟩) (0 + 1) c) ((sz_alloc (w.alloc (.cells #[ptr q] 44)) (.cells #[num a] 3)).trans (by rw [sz_alloc])) (z_alloc (z_alloc hz))
    have F0 := (((MM.Far.refl [] w).alloc (.cells #[ptr q] 44)).alloc (.cells #[num a] 3)).alloc (.cells #[.slice (some ⟨g, o, none⟩) (0 + 1) c] 23)
    unfold num ptr at *
    go_enter Tryz.func48, Tryz.ntmps48
    go_wp2
    generalize (((w.alloc (Obj.cells #[Value.pointer (some { block := q, off := 0 })] 44)).alloc (Obj.cells #[Value.int IntKind.i64 a] 3)).alloc (Obj.cells #[Value.slice (some { block := g, off := o }) 1 c] 23)) = W at *
    have x1 := B1.at
    have x3 := B3.at
    have xg := far_cell F0 hc
    have HC := Lib.hid (datum_any W.drew q (z_far hz (F0.drew)) i)
    have HF0 := Lib.hid F0
    clear B1 B3 hc F0 hc1 hc2 hlen hz
    unfold num ptr at HC
    go_region_held3 (fun w' => w'.cell? ⟨w.heap.size, 0, none⟩ = some (.pointer (some ⟨q, 0, none⟩)) ∧ w'.cell? ⟨w.heap.size + 1 + 1, 0, none⟩ = some (.slice (some ⟨g, o, none⟩) 1 c) ∧ w'.cell? ⟨g, o, none⟩ = some (.int .i64 i)) (first | assumption | go_keep) (first
      | (go_at_call 62; refine HC.out.mono ?_; rintro e w1 ⟨v, rfl, hI, hF1⟩; have HI := Lib.hid hI; have HF1 := Lib.hid hF1; have hk := keep3 hF1 (by assumption); clear hI hF1))
    go_wp2
    go_ret
    exact ⟨_, rfl, HI.out, (HF0.out.drew).trans HF1.out (by simp)⟩
  · have h1b : ¬ ((l.length : Nat) : Int) = 1 := by omega
    have hbody : body a l = .seq a l := by
      match l, h1 with
      | [], _ => rfl
      | [_], h1 => exact absurd rfl h1
      | _ :: _ :: _, _ => rfl
    rw [hbody]
    obtain ⟨A, c, rfl, _⟩ := hl.form
    have hl2 := hl
    rw [ints_len] at hl2 ⊢
    generalize l.length = m at *
    have B1 := ((bx_new 44 (ptr q) rfl hz).alloc (.cells #[num a] 3)).alloc (.cells #[.slice A m c] 23)
    have B2 := (bx_new 3 (num a) (sz_alloc w (.cells #[ptr q] 44)) (z_alloc hz)).alloc (.cells #[.slice A m c] 23)
    have B3 := bx_new 23 (.slice A m c) ((sz_alloc (w.alloc (.cells #[ptr q] 44)) (.cells #[num a] 3)).trans (by rw [sz_alloc])) (z_alloc (z_alloc hz))
    have F0 := (((MM.Far.refl [] w).alloc (.cells #[ptr q] 44)).alloc (.cells #[num a] 3)).alloc (.cells #[.slice A m c] 23)
    have HI := Lib.hid (Is.seq B2 B1 B3 (hl2.far F0 (by simp)))
    have HF0 := Lib.hid F0
    clear B1 B2 B3 F0 hl hl2 hz hbody h1
    unfold num ptr at *
    go_enter Tryz.func48, Tryz.ntmps48
    go_wp2
    go_ret
    exact ⟨_, rfl, HI.out, HF0.out⟩
end EW
end Go.Proofs.YtaghlpolljaedaaGreat
/-
  A plan is stored into its box, cell by cell, and a call's result read from there. No condition.
-/
namespace Go.Proofs.YtaghlpolljaedaaGreat
open Go.RowKit
namespace EW
open LX SX RW6 EX
open RX (Nd)
def plL (bad : Bool) (f : Fm) (pv parts ins : Value) : List Value := [.bool bad, .int .u8 f.kind, num f.at_, num f.n, num 0, .string f.s, pv, .int .u64 0, .slice none 0 0, parts, ins]
theorem plan_size (W : World) : (sizeOf 78).run Tryz.prog W = .ok 11 W := by kernel_rfl
theorem plan_agg (W : World) : (isAgg 78).run Tryz.prog W = .ok true W := by kernel_rfl
theorem run_loadPl {w : World} {b : Nat} {bad : Bool} {f : Fm} {pv parts ins : Value} (hR : MM.Row w b 78 (plL bad f pv parts ins)) : (loadVar 78 ⟨b, 0, none⟩).run Tryz.prog w = .ok (plV bad f pv parts ins) w := by
  have hl := run_loadCellsFrom (P := Tryz.prog) (w := w) ⟨b, 0, none⟩ (fun j => (plL bad f pv parts ins).getD j undef) 11 0 #[] (fun j hj => by
    rw [MM.head_add]
    refine hR.at ?_
    rw [List.getD_eq_getElem?_getD, Nat.zero_add, List.getElem?_eq_getElem (by simpa [plL] using hj)]; rfl)
  simp only [loadVar, Sem.run_bind, plan_agg, plan_size, Result.andThen, if_true, loadCells]
  rw [hl]
  rfl
/-- A result that lies in its box. -/
theorem bodyPost_cell {fn : Func} {a : Act} {w : World} {post : Ending → World → Prop} {b t : Nat} {bad : Bool} {f : Fm} {pv parts ins : Value} (hr : fn.results = #[.cell t 78]) (ha : a.tmps.getD t undef = .pointer (some ⟨b, 0, none⟩)) (hd : a.defers = [])
    (hR : MM.Row w b 78 (plL bad f pv parts ins)) (h : post (.returned (plV bad f pv parts ins)) w) : bodyPost Tryz.prog fn post .ret a w := by
  refine bodyPost_ret (v := plV bad f pv parts ins) ?_ hd h
  have ha2 : a.tmps[t]?.getD undef = .pointer (some ⟨b, 0, none⟩) := by rw [← Array.getD_eq_getD_getElem?]; exact ha
  simp only [results, hr]
  simp [ha2, asAddr, run_loadPl hR]
/-- The world in which a plan is stored. -/
abbrev setPl (w : World) (b : Nat) (bad : Bool) (kind at_ n : Int) (s : ByteArray) (pv parts ins : Value) : World :=
  ((((((((((w.setCell ⟨b, 0, none⟩ (.bool bad)).setCell ⟨b, 1, none⟩ (.int .u8 kind)).setCell ⟨b, 2, none⟩ (.int .i64 at_)).setCell ⟨b, 3, none⟩ (.int .i64 n)).setCell ⟨b, 4, none⟩ (.int .i64 0)).setCell ⟨b, 5, none⟩ (.string s)).setCell ⟨b, 6, none⟩ pv).setCell ⟨b, 7, none⟩ (.int .u64 0)).setCell ⟨b, 8, none⟩ (.slice none 0 0)).setCell ⟨b, 9, none⟩ parts).setCell ⟨b, 10, none⟩ ins
theorem far_setPl (w : World) (b : Nat) (bad : Bool) (kind at_ n : Int) (s : ByteArray) (pv parts ins : Value) : MM.Far [b] w (setPl w b bad kind at_ n s pv parts ins) :=
  ((((((((((((MM.Far.refl [b] w).setCell (p := ⟨b, 0, none⟩) (by simp) _).setCell (p := ⟨b, 1, none⟩) (by simp) _).setCell (p := ⟨b, 2, none⟩) (by simp) _).setCell (p := ⟨b, 3, none⟩) (by simp) _).setCell (p := ⟨b, 4, none⟩) (by simp) _).setCell (p := ⟨b, 5, none⟩) (by simp) _).setCell (p := ⟨b, 6, none⟩) (by simp) _).setCell (p := ⟨b, 7, none⟩) (by simp) _).setCell (p := ⟨b, 8, none⟩) (by simp) _).setCell (p := ⟨b, 9, none⟩) (by simp) _).setCell (p := ⟨b, 10, none⟩) (by simp) _)
/-- A plan's box: its cells, and that they may be written. -/
structure PlBox (w : World) (b : Nat) : Prop where
  row : ∃ v0 v1 v2 v3 v4 v5 v6 v7 v8 v9 v10, MM.Row w b 78 [v0, v1, v2, v3, v4, v5, v6, v7, v8, v9, v10]
theorem PlBox.far {S : List Nat} {w w' : World} {b : Nat} (h : PlBox w b) (f : MM.Far S w w') (hb : b ∉ S) : PlBox w' b := by
  obtain ⟨v0, v1, v2, v3, v4, v5, v6, v7, v8, v9, v10, h⟩ := h.row
  exact ⟨v0, v1, v2, v3, v4, v5, v6, v7, v8, v9, v10, h.far f hb⟩
theorem PlBox.new {w : World} {k : Nat} (hk : w.heap.size = k) : PlBox (w.alloc zP) k := ⟨_, _, _, _, _, _, _, _, _, _, _, by subst hk; exact MM.Row.new w 78 [.bool false, .int .u8 0, .int .i64 0, .int .i64 0, .int .i64 0, .string ⟨#[]⟩, .slice none 0 0, .int .u64 0, .slice none 0 0, .slice none 0 0, .nilFunc]⟩
theorem PlBox.cells {w : World} {b : Nat} (h : PlBox w b) : ∃ v0 v1 v2 v3 v4 v5 v6 v7 v8 v9 v10, w.cell? ⟨b, 0, none⟩ = some v0 ∧ w.cell? ⟨b, 1, none⟩ = some v1 ∧ w.cell? ⟨b, 2, none⟩ = some v2 ∧ w.cell? ⟨b, 3, none⟩ = some v3 ∧ w.cell? ⟨b, 4, none⟩ = some v4 ∧
    w.cell? ⟨b, 5, none⟩ = some v5 ∧ w.cell? ⟨b, 6, none⟩ = some v6 ∧ w.cell? ⟨b, 7, none⟩ = some v7 ∧ w.cell? ⟨b, 8, none⟩ = some v8 ∧ w.cell? ⟨b, 9, none⟩ = some v9 ∧ w.cell? ⟨b, 10, none⟩ = some v10 ∧ ∀ i, w.frozen? ⟨b, i, none⟩ = false := by
  obtain ⟨v0, v1, v2, v3, v4, v5, v6, v7, v8, v9, v10, h⟩ := h.row
  exact ⟨v0, v1, v2, v3, v4, v5, v6, v7, v8, v9, v10, h.at (i := 0) rfl, h.at (i := 1) rfl, h.at (i := 2) rfl, h.at (i := 3) rfl, h.at (i := 4) rfl, h.at (i := 5) rfl, h.at (i := 6) rfl, h.at (i := 7) rfl, h.at (i := 8) rfl, h.at (i := 9) rfl, h.at (i := 10) rfl, h.frozen⟩
theorem PlBox.set {w : World} {b : Nat} (h : PlBox w b) (bad : Bool) (kind at_ n : Int) (s : ByteArray) (pv parts ins : Value) : MM.Row (setPl w b bad kind at_ n s pv parts ins) b 78 [.bool bad, .int .u8 kind, .int .i64 at_, .int .i64 n, .int .i64 0, .string s, pv, .int .u64 0, .slice none 0 0, parts, ins] := by
  obtain ⟨v0, v1, v2, v3, v4, v5, v6, v7, v8, v9, v10, h⟩ := h.row
  exact ((((((((((h.put 0 (.bool bad)).put 1 (.int .u8 kind)).put 2 (.int .i64 at_)).put 3 (.int .i64 n)).put 4 (.int .i64 0)).put 5 (.string s)).put 6 pv).put 7 (.int .u64 0)).put 8 (.slice none 0 0)).put 9 parts).put 10 ins
theorem IsPl.more {w : World} {Z Z' : List Nat} {q : Nat} {v : Value} {pl : Pl} (h : IsPl w Z q v pl) (hZ : ∀ b ∈ Z', b ∈ Z ∨ w.heap.size ≤ b) : IsPl w Z' q v pl := by
  cases pl with
  | bad a => exact h
  | mk fm ps =>
    obtain ⟨pv, parts, vs, e, h1, h2, h3⟩ := h
    exact ⟨pv, parts, vs, e, h1.more hZ, h2.more hZ, h3.more hZ⟩
  | ins p =>
    obtain ⟨v', e, h1⟩ := h
    exact ⟨v', e, h1.more hZ⟩
theorem store_one {ins : Value} (h : ins.oneCell' = true) : ∀ (a : Addr) (m : Mode) (W : World), (store a ins m).run Tryz.prog W = stored Tryz.prog W a ins m := fun a m W => run_store Tryz.prog W a _ m h
/-- The form of a plan's value. -/
theorem IsPl.form {w : World} {Z : List Nat} {q : Nat} {v : Value} {pl : Pl} (h : IsPl w Z q v pl) : ∃ bad kind at_ n s A m c A2 m2 c2 ins, v = .agg #[.bool bad, .int .u8 kind, .int .i64 at_, .int .i64 n, .int .i64 0, .string s, .slice A m c, .int .u64 0, .slice none 0 0, .slice A2 m2 c2, ins] ∧
    (∀ (a : Addr) (m : Mode) (W : World), (store a ins m).run Tryz.prog W = stored Tryz.prog W a ins m) := by
  cases pl with
  | bad a => exact ⟨_, _, _, _, _, _, _, _, _, _, _, _, h, store_one rfl⟩
  | mk fm ps =>
    obtain ⟨pv, parts, vs, rfl, h1, h2, h3⟩ := h
    obtain ⟨A, c, rfl, _⟩ := h1.form
    obtain ⟨A2, c2, rfl, _⟩ := h2.form
    exact ⟨_, _, _, _, _, _, _, _, _, _, _, _, rfl, store_one rfl⟩
  | ins p =>
    obtain ⟨v', rfl, h1⟩ := h
    obtain ⟨f, l, rfl⟩ := h1.func
    exact ⟨_, _, _, _, _, _, _, _, _, _, _, _, rfl, store_one rfl⟩
/-- The end of a call that makes a plan. -/
theorem fin_pl {fn : Func} {a : Act} {w w1 : World} {Z : List Nat} {q b t : Nat} {pl : Pl} {bad : Bool} {kind at_ n : Int} {s : ByteArray} {pv parts ins : Value} (hr : fn.results = #[.cell t 78]) (ha : a.tmps.getD t undef = .pointer (some ⟨b, 0, none⟩)) (hd : a.defers = [])
    (hB : PlBox w1 b) (hF : MM.Far [] w w1) (hb : w.heap.size ≤ b) (h : IsPl w1 (b :: Z) q (.agg #[.bool bad, .int .u8 kind, .int .i64 at_, .int .i64 n, .int .i64 0, .string s, pv, .int .u64 0, .slice none 0 0, parts, ins]) pl) :
    bodyPost Tryz.prog fn (PlanQ w Z q pl) .ret a (setPl w1 b bad kind at_ n s pv parts ins) := by
  refine bodyPost_cell (f := ⟨kind, at_, n, s, [], []⟩) hr ha hd (hB.set bad kind at_ n s pv parts ins) ⟨_, rfl, ?_, ?_⟩
  · exact (h.far (far_setPl w1 b bad kind at_ n s pv parts ins) (by simp)).more (fun x hx => .inl (List.mem_cons_of_mem _ hx))
  · exact hF.trans (far_setPl w1 b bad kind at_ n s pv parts ins) (fun x hx hl => by
      have : x = b := by simpa using hx
      omega)
theorem z_cons {w : World} {Z : List Nat} {o : Obj} {k : Nat} (hk : w.heap.size = k) (hz : ∀ b ∈ Z, b < w.heap.size) : ∀ b ∈ k :: Z, b < (w.alloc o).heap.size := by
  intro b hb
  rw [sz_alloc]
  rcases List.mem_cons.1 hb with rfl | hb
  · omega
  · have := hz b hb; omega
end EW
end Go.Proofs.YtaghlpolljaedaaGreat
/-
  Layer 8's code in memory: the expander with its forms, those by themselves, and the plans that are open, each with its list; no two rows the same. No condition.
-/
namespace Go.Proofs.YtaghlpolljaedaaGreat
open Go.RowKit
namespace EW
open LX SX RW6 EX
open RX (Nd)
open RM6 (Kin)
/-- An open plan in memory: its names, its list, its parts. -/
structure Pc where
  o : EX.Op
  pv : Value
  lv : Value
  av : Value
def pcL (x : Pc) : List Value := [.bool false, .int .u8 x.o.f.kind, .int .i64 x.o.f.at_, .int .i64 x.o.f.n, .int .i64 0, .string x.o.f.s, x.pv, .int .u64 0, x.lv, x.av, .nilFunc]
def opC (os : List Pc) : List Value := os.flatMap pcL
def fmL (x : Fm × Value × Value) : List Value := [.int .u8 x.1.kind, .int .i64 x.1.at_, .int .i64 x.1.n, .int .i64 0, .string x.1.s, x.2.1, .int .u64 0, x.2.2]
def fmC (rs : List (Fm × Value × Value)) : List Value := rs.flatMap fmL
theorem opC_snoc (os : List Pc) (x : Pc) : opC (os ++ [x]) = opC os ++ pcL x := by simp [opC]
theorem fmC_snoc (rs : List (Fm × Value × Value)) (x : Fm × Value × Value) : fmC (rs ++ [x]) = fmC rs ++ fmL x := by simp [fmC]
theorem opC_len (os : List Pc) : (opC os).length = os.length * 11 := by
  induction os with
  | nil => rfl
  | cons x r ih => simp only [opC, List.flatMap_cons, List.length_append, List.length_cons] at ih ⊢; rw [ih]; simp [pcL]; omega
theorem fmC_len (rs : List (Fm × Value × Value)) : (fmC rs).length = rs.length * 8 := by
  induction rs with
  | nil => rfl
  | cons x r ih => simp only [fmC, List.flatMap_cons, List.length_append, List.length_cons] at ih ⊢; rw [ih]; simp [fmL]; omega
def kinsF (rs : List (Fm × Value × Value)) : List (Value × List Nat) := rs.map fun x => (x.2.2, x.1.l)
def kinsO (os : List Pc) : List (Value × List Nat) := os.map fun x => (x.lv, x.o.f.l)
/-- What is read alone. -/
structure Rdd (w : World) (Z : List Nat) (q mb : Nat) (rs : List (Fm × Value × Value)) (os : List Pc) : Prop where
  map : MapOk w Z q mb
  nam : ∀ x ∈ rs, Sl w Z x.2.1 (strs x.1.p)
  prt : ∀ x ∈ os, Sl w Z x.pv (strs x.o.f.p) ∧ ∃ vs, Sl w Z x.av vs ∧ Iss w Z q vs x.o.ps
theorem Rdd.step {w w1 : World} {Z Z' S : List Nat} {q mb : Nat} {rs : List (Fm × Value × Value)} {os : List Pc} (h : Rdd w Z q mb rs os) (hZ : ∀ b ∈ Z', b ∈ Z ∨ w.heap.size ≤ b) (f : MM.Far S w w1) (hS : ∀ b ∈ S, b < w.heap.size → b ∈ Z') : Rdd w1 Z' q mb rs os :=
  ⟨(h.map.more hZ).far f hS, fun x hx => ((h.nam x hx).more hZ).far f hS, fun x hx => by
    obtain ⟨h1, vs, h2, h3⟩ := h.prt x hx
    exact ⟨(h1.more hZ).far f hS, vs, (h2.more hZ).far f hS, (h3.more hZ).far f hS⟩⟩
/-- The expander at q. Z: all the blocks that it writes. -/
structure Mx (w0 w : World) (Z : List Nat) (q mb : Nat) (dv fv tv hv ov : Value) (rs : List (Fm × Value × Value)) (tops : List Nat) (os : List Pc) (ex : List (Value × List Nat)) : Prop where
  far : MM.Far [] w0 w
  qb : w0.heap.size ≤ q
  head : MM.Row w q 51 [dv, .map (some mb), fv, tv, hv]
  row : w.ownsRow w0.heap.size 41 8 fv rs.length (fmC rs)
  op : w.ownsRow w0.heap.size 78 11 ov os.length (opC os.reverse)
  kin : Kin w w0.heap.size ((tv, tops) :: (kinsF rs ++ (kinsO os ++ ex)))
  low : ∀ b ∈ Z, w0.heap.size ≤ b
  z : ∀ b ∈ Z, b < w.heap.size
  zq : q ∈ Z
  zf : ∀ b, fv.ownBlock = some b → b ∈ Z
  zo : ∀ b, ov.ownBlock = some b → b ∈ Z
  zk : ∀ k ∈ ((tv, tops) :: (kinsF rs ++ (kinsO os ++ ex))), ∀ b, k.1.ownBlock = some b → b ∈ Z
  rd : Rdd w Z q mb rs os
/-- The blocks that are written now: those of before, or new ones. -/
structure Zto (w w1 : World) (Z Z' : List Nat) : Prop where
  sub : ∀ b ∈ Z, b ∈ Z'
  new : ∀ b ∈ Z', b ∈ Z ∨ w.heap.size ≤ b
theorem Zto.refl (w w1 : World) (Z : List Nat) : Zto w w1 Z Z := ⟨fun _ h => h, fun _ h => .inl h⟩
theorem Zto.of {w w1 w2 : World} {Z Z' Z2 : List Nat} (h : Zto w w1 Z Z') (k : Zto w1 w2 Z' Z2) (hs : w.heap.size ≤ w1.heap.size) : Zto w w2 Z Z2 :=
  ⟨fun b hb => k.sub b (h.sub b hb), fun b hb => by
    rcases k.new b hb with h1 | h1
    · exact h.new b h1
    · exact .inr (by omega)⟩
theorem ztoOf {w w1 : World} {Z : List Nat} {v v' : Value} (hv : ∀ b, v.ownBlock = some b → b ∈ Z) (hat : v'.ownBlock = v.ownBlock ∨ ∃ b, v'.ownBlock = some b ∧ w.heap.size ≤ b) : Zto w w1 Z (v'.ownBlock.toList ++ Z) :=
  ⟨fun b hb => List.mem_append_right _ hb, fun b hb => by
    rcases List.mem_append.1 hb with h | h
    · have h : v'.ownBlock = some b := by simpa using h
      rcases hat with e | ⟨g, e, hg⟩
      · exact .inl (hv b (e ▸ h))
      · rw [e] at h; injection h with h; exact .inr (by omega)
    · exact .inl h⟩
section
variable {w0 w w1 : World} {Z : List Nat} {q mb : Nat} {dv fv tv hv ov : Value} {rs : List (Fm × Value × Value)} {tops : List Nat} {os : List Pc} {ex : List (Value × List Nat)}
theorem Mx.to (h : Mx w0 w Z q mb dv fv tv hv ov rs tops os ex) (f : MM.Far [] w w1) : Mx w0 w1 Z q mb dv fv tv hv ov rs tops os ex :=
  ⟨h.far.trans f (by simp), h.qb, h.head.far f (by simp), MM.own_far h.row f (by simp), MM.own_far h.op f (by simp), h.kin.far f (by simp), h.low, fun b hb => Nat.lt_of_lt_of_le (h.z b hb) f.size, h.zq, h.zf, h.zo, h.zk, h.rd.step (fun b hb => .inl hb) f (by simp)⟩
theorem Mx.env (h : Mx w0 w Z q mb dv fv tv hv ov rs tops os ex) : Env w0 w Z q dv mb :=
  ⟨h.far, h.low, h.z, h.head.at (i := 0) rfl, h.head.at (i := 1) rfl, h.rd.map⟩
theorem off_q {e : TypeId} {size n base : Nat} {v : Value} {xs vs : List Value} (hH : MM.Row w q 51 vs) (ho : w.ownsRow base e size v n xs) (ht : e ≠ 51) : ∀ b, v.ownBlock = some b → b ∉ [q] := by
  intro b hb hm
  have : b = q := by simpa using hm
  subst this
  exact MM.own_row_ne ho hH ht hb
theorem off_own {e e' : TypeId} {size size' n n' base base' : Nat} {v v' : Value} {xs xs' : List Value} (h : w.ownsRow base e size v n xs) (h' : w.ownsRow base' e' size' v' n' xs') (ht : e ≠ e') : ∀ b, v.ownBlock = some b → b ∉ v'.ownBlock.toList := by
  intro b hb hm
  exact MM.own_own_ne h h' ht b hb (by simpa using hm)
theorem cell_far (w : World) (g i : Nat) (u : Value) : MM.Far [g] w (w.setCell ⟨g, i, none⟩ u) := (MM.Far.refl [g] w).setCell (by simp) u
theorem low_of {S : List Nat} (h : MM.Far S w w1) (f : MM.Far [] w0 w) (hS : ∀ b ∈ S, w0.heap.size ≤ b) : MM.Far [] w0 w1 := f.trans h (fun b hb hl => by have := hS b hb; omega)
/-- What was opened last stands besides. -/
theorem Mx.drop {x : Pc} {og c : Nat} (h : Mx w0 w Z q mb dv fv tv hv (.slice (some ⟨og, 0, none⟩) (os.length + 1) c) rs tops (x :: os) ex) : Mx w0 w Z q mb dv fv tv hv (.slice (some ⟨og, 0, none⟩) os.length c) rs tops os ((x.lv, x.o.f.l) :: ex) := by
  have pm : ((tv, tops) :: (kinsF rs ++ (kinsO (x :: os) ++ ex))).Perm ((tv, tops) :: (kinsF rs ++ (kinsO os ++ ((x.lv, x.o.f.l) :: ex)))) := by
    refine List.Perm.cons _ (List.Perm.append_left _ ?_)
    show ((x.lv, x.o.f.l) :: (kinsO os ++ ex)).Perm (kinsO os ++ (x.lv, x.o.f.l) :: ex)
    exact List.perm_middle.symm
  refine ⟨h.far, h.qb, h.head, h.row, ?_, h.kin.perm pm, h.low, h.z, h.zq, h.zf, fun b hb => h.zo b hb, fun k hk => h.zk k (pm.mem_iff.2 hk), h.rd.map, h.rd.nam, fun y hy => h.rd.prt y (List.mem_cons_of_mem _ hy)⟩
  have := RC6.own_front (n := os.length + 1) h.op os.length (by omega)
  rw [List.reverse_cons, opC_snoc, List.take_append_of_le_length (by rw [opC_len, List.length_reverse]; omega), List.take_of_length_le (by rw [opC_len, List.length_reverse]; omega)] at this
  exact this
/-- A form more in the row. -/
theorem Mx.form {fv' : Value} (x : Fm) (pv hx : Value) (h : Mx w0 w Z q mb dv fv tv hv ov rs tops os ((hx, x.l) :: ex)) (hp : Sl w Z pv (strs x.p))
    (hr : w1.ownsRow w0.heap.size 41 8 fv' (rs.length + 1) (fmC rs ++ fmL (x, pv, hx))) (f : MM.Far fv.ownBlock.toList w w1) (hat : fv'.ownBlock = fv.ownBlock ∨ ∃ b, fv'.ownBlock = some b ∧ w.heap.size ≤ b) :
    Mx w0 (w1.setCell ⟨q, 2, none⟩ fv') (fv'.ownBlock.toList ++ Z) q mb dv fv' tv hv ov (rs ++ [(x, pv, hx)]) tops os ex := by
  have hlow := fun b (hb : b ∈ fv.ownBlock.toList) => (MM.own_lt h.row b (by simpa using hb)).2
  have hH : MM.Row w1 q 51 [dv, .map (some mb), fv, tv, hv] := h.head.far f (fun hm => MM.own_row_ne h.row h.head (by decide) (by simpa using hm))
  have hO := MM.own_far h.op f (off_own h.op h.row (by decide))
  have hK := h.kin.far f (fun k hk => off_own (h.kin.each k hk) h.row (by decide))
  have g := cell_far w1 q 2 fv'
  have f2 : MM.Far (q :: fv.ownBlock.toList) w (w1.setCell ⟨q, 2, none⟩ fv') := (f.mono (fun b hb _ => List.mem_cons_of_mem _ hb)).trans g (fun b hb _ => by simp at hb; simp [hb])
  have zt := ztoOf (w1 := w1) h.zf hat
  have pm : ((tv, tops) :: (kinsF rs ++ (kinsO os ++ ((hx, x.l) :: ex)))).Perm ((tv, tops) :: (kinsF (rs ++ [(x, pv, hx)]) ++ (kinsO os ++ ex))) := by
    refine List.Perm.cons _ ?_
    rw [show kinsF (rs ++ [(x, pv, hx)]) = kinsF rs ++ [(hx, x.l)] by simp [kinsF], List.append_assoc]
    refine List.Perm.append_left _ ?_
    rw [List.singleton_append]
    exact List.perm_middle
  have hSZ : ∀ b ∈ q :: fv.ownBlock.toList, b < w.heap.size → b ∈ fv'.ownBlock.toList ++ Z := fun b hb _ => by
    rcases List.mem_cons.1 hb with rfl | hb
    · exact zt.sub _ h.zq
    · exact zt.sub _ (h.zf b (by simpa using hb))
  have hz : ∀ b ∈ fv'.ownBlock.toList ++ Z, b < (w1.setCell ⟨q, 2, none⟩ fv').heap.size := fun b hb => by
    rcases List.mem_append.1 hb with hb | hb
    · exact Nat.lt_of_lt_of_le (MM.own_lt hr b (by simpa using hb)).1 g.size
    · exact Nat.lt_of_lt_of_le (h.z b hb) f2.size
  refine ⟨low_of f2 h.far (fun b hb => ?_), h.qb, hH.put 2 fv', ?_, MM.own_far hO g (off_q hH hO (by decide)), (hK.far g (fun k hk => off_q hH (hK.each k hk) (by decide))).perm pm, ?_, hz, zt.sub _ h.zq, ?_, fun b hb => zt.sub _ (h.zo b hb), fun k hk b hb => zt.sub _ (h.zk k (pm.mem_iff.2 hk) b hb), ?_⟩
  · rcases List.mem_cons.1 hb with rfl | hb
    · exact h.qb
    · exact hlow b hb
  · rw [List.length_append, fmC_snoc]
    exact MM.own_far hr g (off_q hH hr (by decide))
  · intro b hb
    rcases zt.new b hb with h1 | h1
    · exact h.low b h1
    · have := h.far.size; omega
  · exact fun b hb => List.mem_append_left _ (by simpa using hb)
  · have r := h.rd.step zt.new f2 hSZ
    refine ⟨r.map, fun y hy => ?_, r.prt⟩
    rcases List.mem_append.1 hy with hy | hy
    · exact r.nam y hy
    · have : y = (x, pv, hx) := by simpa using hy
      subst this
      exact (hp.more zt.new).far f2 hSZ
/-- The row of what is open is shorter. -/
theorem Mx.cut (h : Mx w0 w Z q mb dv fv tv hv ov rs tops os ex) : Mx w0 (w.setCell ⟨q, 4, none⟩ ov) Z q mb dv fv tv ov ov rs tops os ex := by
  have g := cell_far w q 4 ov
  refine ⟨low_of g h.far (fun b hb => ?_), h.qb, h.head.put 4 ov, MM.own_far h.row g (off_q h.head h.row (by decide)), MM.own_far h.op g (off_q h.head h.op (by decide)), h.kin.far g (fun k hk => off_q h.head (h.kin.each k hk) (by decide)), h.low, fun b hb => Nat.lt_of_lt_of_le (h.z b hb) g.size, h.zq, h.zf, h.zo, h.zk, h.rd.step (fun b hb => .inl hb) g (fun b hb _ => ?_)⟩
  · have : b = q := by simpa using hb
    subst this; exact h.qb
  · have : b = q := by simpa using hb
    subst this; exact h.zq
/-- One more that stands by itself. -/
theorem Mx.top {tv' : Value} {n : Nat} (h : Mx w0 w Z q mb dv fv tv hv ov rs tops os ex)
    (hr : w1.ownsRow w0.heap.size 3 1 tv' (tops.length + 1) (ints tops ++ [.int .i64 ((n : Nat) : Int)])) (f : MM.Far tv.ownBlock.toList w w1) (hat : tv'.ownBlock = tv.ownBlock ∨ ∃ b, tv'.ownBlock = some b ∧ w.heap.size ≤ b) :
    Mx w0 (w1.setCell ⟨q, 3, none⟩ tv') (tv'.ownBlock.toList ++ Z) q mb dv fv tv' hv ov rs (tops ++ [n]) os ex := by
  have ht := h.kin.each _ (List.mem_cons_self ..)
  have hlow := fun b (hb : b ∈ tv.ownBlock.toList) => (MM.own_lt ht b (by simpa using hb)).2
  have hH : MM.Row w1 q 51 [dv, .map (some mb), fv, tv, hv] := h.head.far f (fun hm => MM.own_row_ne ht h.head (by decide) (by simpa using hm))
  have hR := MM.own_far h.row f (off_own h.row ht (by decide))
  have hO := MM.own_far h.op f (off_own h.op ht (by decide))
  have hK := h.kin.grow hr f hat
  have g := cell_far w1 q 3 tv'
  have f2 : MM.Far (q :: tv.ownBlock.toList) w (w1.setCell ⟨q, 3, none⟩ tv') := (f.mono (fun b hb _ => List.mem_cons_of_mem _ hb)).trans g (fun b hb _ => by simp at hb; simp [hb])
  have ztv : ∀ b, tv.ownBlock = some b → b ∈ Z := h.zk _ (List.mem_cons_self ..)
  have zt := ztoOf (w1 := w1) ztv hat
  have hSZ : ∀ b ∈ q :: tv.ownBlock.toList, b < w.heap.size → b ∈ tv'.ownBlock.toList ++ Z := fun b hb _ => by
    rcases List.mem_cons.1 hb with rfl | hb
    · exact zt.sub _ h.zq
    · exact zt.sub _ (ztv b (by simpa using hb))
  refine ⟨low_of f2 h.far (fun b hb => ?_), h.qb, hH.put 3 tv', MM.own_far hR g (off_q hH hR (by decide)), MM.own_far hO g (off_q hH hO (by decide)), hK.far g (fun k hk => off_q hH (hK.each k hk) (by decide)), ?_, ?_, zt.sub _ h.zq, fun b hb => zt.sub _ (h.zf b hb), fun b hb => zt.sub _ (h.zo b hb), ?_, h.rd.step zt.new f2 hSZ⟩
  · rcases List.mem_cons.1 hb with rfl | hb
    · exact h.qb
    · exact hlow b hb
  · intro b hb
    rcases zt.new b hb with h1 | h1
    · exact h.low b h1
    · have := h.far.size; omega
  · intro b hb
    rcases List.mem_append.1 hb with hb | hb
    · exact Nat.lt_of_lt_of_le (MM.own_lt hr b (by simpa using hb)).1 g.size
    · exact Nat.lt_of_lt_of_le (h.z b hb) f2.size
  · intro k hk b hb
    rcases List.mem_cons.1 hk with rfl | hk
    · exact List.mem_append_left _ (by simpa using hb)
    · exact zt.sub _ (h.zk k (List.mem_cons_of_mem _ hk) b hb)
/-- One more that is open. -/
theorem Mx.push {ov' : Value} (x : Pc) (hl : x.o.f.l = []) (hlv : x.lv = .slice none 0 0) (h : Mx w0 w Z q mb dv fv tv hv ov rs tops os ex) (hp : Sl w Z x.pv (strs x.o.f.p) ∧ ∃ vs, Sl w Z x.av vs ∧ Iss w Z q vs x.o.ps)
    (hr : w1.ownsRow w0.heap.size 78 11 ov' (os.length + 1) (opC os.reverse ++ pcL x)) (f : MM.Far ov.ownBlock.toList w w1) (hat : ov'.ownBlock = ov.ownBlock ∨ ∃ b, ov'.ownBlock = some b ∧ w.heap.size ≤ b) :
    Mx w0 (w1.setCell ⟨q, 4, none⟩ ov') (ov'.ownBlock.toList ++ Z) q mb dv fv tv ov' ov' rs tops (x :: os) ex := by
  have hlow := fun b (hb : b ∈ ov.ownBlock.toList) => (MM.own_lt h.op b (by simpa using hb)).2
  have hH : MM.Row w1 q 51 [dv, .map (some mb), fv, tv, hv] := h.head.far f (fun hm => MM.own_row_ne h.op h.head (by decide) (by simpa using hm))
  have hR := MM.own_far h.row f (off_own h.row h.op (by decide))
  have hK := h.kin.far f (fun k hk => off_own (h.kin.each k hk) h.op (by decide))
  have g := cell_far w1 q 4 ov'
  have f2 : MM.Far (q :: ov.ownBlock.toList) w (w1.setCell ⟨q, 4, none⟩ ov') := (f.mono (fun b hb _ => List.mem_cons_of_mem _ hb)).trans g (fun b hb _ => by simp at hb; simp [hb])
  have zt := ztoOf (w1 := w1) h.zo hat
  have hSZ : ∀ b ∈ q :: ov.ownBlock.toList, b < w.heap.size → b ∈ ov'.ownBlock.toList ++ Z := fun b hb _ => by
    rcases List.mem_cons.1 hb with rfl | hb
    · exact zt.sub _ h.zq
    · exact zt.sub _ (h.zo b (by simpa using hb))
  have pm : ((.slice none 0 0, []) :: ((tv, tops) :: (kinsF rs ++ (kinsO os ++ ex)))).Perm ((tv, tops) :: (kinsF rs ++ (kinsO (x :: os) ++ ex))) := by
    refine (List.Perm.swap _ _ _).trans (List.Perm.cons _ ?_)
    have e : kinsO (x :: os) = (.slice none 0 0, []) :: kinsO os := by unfold kinsO; rw [List.map_cons, hl, hlv]
    rw [e, List.cons_append]
    exact List.perm_middle.symm
  refine ⟨low_of f2 h.far (fun b hb => ?_), h.qb, hH.put 4 ov', MM.own_far hR g (off_q hH hR (by decide)), ?_, ((hK.far g (fun k hk => off_q hH (hK.each k hk) (by decide))).none_).perm pm, ?_, ?_, zt.sub _ h.zq, fun b hb => zt.sub _ (h.zf b hb), fun b hb => List.mem_append_left _ (by simpa using hb), ?_, ?_⟩
  · rcases List.mem_cons.1 hb with rfl | hb
    · exact h.qb
    · exact hlow b hb
  · rw [List.length_cons, List.reverse_cons, opC_snoc]
    exact MM.own_far hr g (off_q hH hr (by decide))
  · intro b hb
    rcases zt.new b hb with h1 | h1
    · exact h.low b h1
    · have := h.far.size; omega
  · intro b hb
    rcases List.mem_append.1 hb with hb | hb
    · exact Nat.lt_of_lt_of_le (MM.own_lt hr b (by simpa using hb)).1 g.size
    · exact Nat.lt_of_lt_of_le (h.z b hb) f2.size
  · intro k hk b hb
    rcases List.mem_cons.1 (pm.mem_iff.2 hk) with rfl | hk
    · simp [Value.ownBlock] at hb
    · exact zt.sub _ (h.zk k hk b hb)
  · have r := h.rd.step zt.new f2 hSZ
    refine ⟨r.map, r.nam, fun y hy => ?_⟩
    rcases List.mem_cons.1 hy with rfl | hy
    · obtain ⟨h1, vs, h2, h3⟩ := hp
      exact ⟨(h1.more zt.new).far f2 hSZ, vs, (h2.more zt.new).far f2 hSZ, (h3.more zt.new).far f2 hSZ⟩
    · exact r.prt y hy
/-- What was opened last has one more. -/
theorem Mx.more {lv' : Value} {x : Pc} {n og c : Nat} (h : Mx w0 w Z q mb dv fv tv hv ov rs tops (x :: os) ex) (hov : ov = .slice (some ⟨og, 0, none⟩) (os.length + 1) c)
    (hr : w1.ownsRow w0.heap.size 3 1 lv' (x.o.f.l.length + 1) (ints x.o.f.l ++ [.int .i64 ((n : Nat) : Int)])) (f : MM.Far x.lv.ownBlock.toList w w1) (hat : lv'.ownBlock = x.lv.ownBlock ∨ ∃ b, lv'.ownBlock = some b ∧ w.heap.size ≤ b) :
    Mx w0 (w1.setCell ⟨og, os.length * 11 + 8, none⟩ lv') (lv'.ownBlock.toList ++ Z) q mb dv fv tv hv ov rs tops (⟨x.o.add n, x.pv, lv', x.av⟩ :: os) ex := by
  have hmem : (x.lv, x.o.f.l) ∈ ((tv, tops) :: (kinsF rs ++ (kinsO (x :: os) ++ ex))) := by simp [kinsO]
  have ht := h.kin.each _ hmem
  have hlow := fun b (hb : b ∈ x.lv.ownBlock.toList) => (MM.own_lt ht b (by simpa using hb)).2
  have hH : MM.Row w1 q 51 [dv, .map (some mb), fv, tv, hv] := h.head.far f (fun hm => MM.own_row_ne ht h.head (by decide) (by simpa using hm))
  have hR := MM.own_far h.row f (off_own h.row ht (by decide))
  have hO := MM.own_far h.op f (off_own h.op ht (by decide))
  have pm : ((tv, tops) :: (kinsF rs ++ (kinsO (x :: os) ++ ex))).Perm ((x.lv, x.o.f.l) :: ((tv, tops) :: (kinsF rs ++ (kinsO os ++ ex)))) := by
    refine (List.Perm.cons _ ?_).trans (List.Perm.swap _ _ _)
    show (kinsF rs ++ ((x.lv, x.o.f.l) :: (kinsO os ++ ex))).Perm _
    exact List.perm_middle
  have hK := (h.kin.perm pm).grow hr f hat
  have g := cell_far w1 og (os.length * 11 + 8) lv'
  have hog := MM.own_lt hO og (by rw [hov]; rfl)
  have hOs := hO
  rw [hov] at hOs
  have ztv : ∀ b, x.lv.ownBlock = some b → b ∈ Z := h.zk _ hmem
  have zt := ztoOf (w1 := w1) ztv hat
  have hogZ : og ∈ Z := h.zo og (by rw [hov]; rfl)
  have f2 : MM.Far (og :: x.lv.ownBlock.toList) w (w1.setCell ⟨og, os.length * 11 + 8, none⟩ lv') := (f.mono (fun b hb _ => List.mem_cons_of_mem _ hb)).trans g (fun b hb _ => by simp at hb; simp [hb])
  have hSZ : ∀ b ∈ og :: x.lv.ownBlock.toList, b < w.heap.size → b ∈ lv'.ownBlock.toList ++ Z := fun b hb _ => by
    rcases List.mem_cons.1 hb with rfl | hb
    · exact zt.sub _ hogZ
    · exact zt.sub _ (ztv b (by simpa using hb))
  have offo {e : TypeId} {size n : Nat} {v : Value} {xs : List Value} (ho : w1.ownsRow w0.heap.size e size v n xs) (ht : e ≠ 78) : ∀ b, v.ownBlock = some b → b ∉ [og] := by
    intro b hb hm
    have : b = og := by simpa using hm
    subst this
    exact MM.own_own_ne ho hOs ht b hb rfl
  have pm2 : ((lv', x.o.f.l ++ [n]) :: ((tv, tops) :: (kinsF rs ++ (kinsO os ++ ex)))).Perm ((tv, tops) :: (kinsF rs ++ (kinsO (⟨x.o.add n, x.pv, lv', x.av⟩ :: os) ++ ex))) := by
    refine (List.Perm.swap _ _ _).trans (List.Perm.cons _ ?_)
    show ((lv', x.o.f.l ++ [n]) :: (kinsF rs ++ (kinsO os ++ ex))).Perm (kinsF rs ++ ((lv', x.o.f.l ++ [n]) :: (kinsO os ++ ex)))
    exact List.perm_middle.symm
  refine ⟨low_of f2 h.far (fun b hb => ?_), h.qb, ?_, MM.own_far hR g (offo hR (by decide)), ?_, (hK.far g (fun k hk => offo (hK.each k hk) (by decide))).perm pm2, ?_, ?_, zt.sub _ h.zq, fun b hb => zt.sub _ (h.zf b hb), fun b hb => zt.sub _ (h.zo b hb), ?_, ?_⟩
  · rcases List.mem_cons.1 hb with rfl | hb
    · exact h.low _ hogZ
    · exact hlow b hb
  · refine hH.far g (fun hm => ?_)
    have e : q = og := by simpa using hm
    subst e
    exact MM.own_row_ne hOs hH (by decide) rfl
  · have hst := (hOs.stored (os.length * 11 + 8) lv').1
    rw [hov, List.length_cons]
    have e : (opC (x :: os).reverse).set (os.length * 11 + 8) lv' = opC ((⟨x.o.add n, x.pv, lv', x.av⟩ : Pc) :: os).reverse := by
      rw [List.reverse_cons, List.reverse_cons, opC_snoc, opC_snoc, List.set_append_right _ _ (by rw [opC_len, List.length_reverse]; omega), opC_len, List.length_reverse]
      congr 1
      rw [show os.length * 11 + 8 - os.length * 11 = 8 by omega]
      rfl
    rw [← e]
    exact hst
  · intro b hb
    rcases zt.new b hb with h1 | h1
    · exact h.low b h1
    · have := h.far.size; omega
  · intro b hb
    rcases List.mem_append.1 hb with hb | hb
    · exact Nat.lt_of_lt_of_le (MM.own_lt hr b (by simpa using hb)).1 g.size
    · exact Nat.lt_of_lt_of_le (h.z b hb) f2.size
  · intro k hk b hb
    rcases List.mem_cons.1 (pm2.mem_iff.2 hk) with rfl | hk
    · exact List.mem_append_left _ (by simpa using hb)
    · exact zt.sub _ (h.zk k (pm.mem_iff.2 (List.mem_cons_of_mem _ hk)) b hb)
  · have r := h.rd.step zt.new f2 hSZ
    refine ⟨r.map, r.nam, fun y hy => ?_⟩
    rcases List.mem_cons.1 hy with rfl | hy
    · exact r.prt x (List.mem_cons_self ..)
    · exact r.prt y (List.mem_cons_of_mem _ hy)
/-- The cells of what was opened last. -/
theorem Mx.open_at {x : Pc} (h : Mx w0 w Z q mb dv fv tv hv ov rs tops (x :: os) ex) : ∃ og oc, ov = .slice (some ⟨og, 0, none⟩) (os.length + 1) oc ∧ os.length + 1 ≤ oc ∧ oc ≤ maxLen ∧ (∀ j u, (pcL x)[j]? = some u → w.cell? ⟨og, os.length * 11 + j, none⟩ = some u) ∧
    (∀ i, w.frozen? ⟨og, i, none⟩ = false) ∧ og < w.heap.size ∧ w0.heap.size ≤ og ∧ og ∈ Z := by
  have ho := h.op
  obtain ⟨A, c, e, _, hc1, hc2, _, hh⟩ := MO.form ho
  have hlt := fun b (hb : ov.ownBlock = some b) => MM.own_lt ho b hb
  rcases hh with ⟨_, hz, _⟩ | ⟨og, rfl, _, _⟩
  · simp at hz
  have hzo := h.zo
  subst e
  have hcells := fun j u (hu : (opC (x :: os).reverse)[j]? = some u) => @World.ownsRow.cells w _ _ _ _ _ _ ho og rfl j u hu
  refine ⟨og, c, rfl, hc1, hc2, fun j u hu => ?_, ?_, (hlt og rfl).1, (hlt og rfl).2, hzo og rfl⟩
  · have : (opC (x :: os).reverse)[os.length * 11 + j]? = some u := by
      rw [List.reverse_cons, opC_snoc, List.getElem?_append_right (by rw [opC_len, List.length_reverse]; omega), opC_len, List.length_reverse, show os.length * 11 + j - os.length * 11 = j by omega]
      exact hu
    have := hcells _ u this
    rw [MM.head_add] at this
    exact this
  · intro i
    rcases ho.2 with ⟨hz, _⟩ | ⟨g, cap, cur, hz, _, hg, _⟩
    · cases hz
    · injection hz with hz
      injection hz with hz
      injection hz with hz
      subst hz
      simp [World.frozen?, hg]
end
theorem forms_slice : Tryz.prog.underlying 25 = some (.slice 41) := by kernel_rfl
theorem form_info : (Tryz.prog.info? 41).map (fun i => (i.zero, i.size, i.bytes)) = some (some (.agg #[.int .u8 0, .int .i64 0, .int .i64 0, .int .i64 0, .string ⟨#[]⟩, .slice none 0 0, .int .u64 0, .slice none 0 0]), 8, 104) := by kernel_rfl
theorem fm_one (f : Fm) (A B : Option Addr) (n c m d : Nat) : ∀ u ∈ fmL (f, .slice A n c, .slice B m d), u.oneCell' = true := by
  intro u hu
  simp only [fmL, List.mem_cons, List.not_mem_nil, or_false] at hu
  rcases hu with rfl | rfl | rfl | rfl | rfl | rfl | rfl | rfl <;> rfl
theorem own_form (w0 : World) {w : World} {e : TypeId} {size n : Nat} {v : Value} {xs : List Value} (h : w.ownsRow w0.heap.size e size v n xs) : ∃ A c, v = .slice A n c := by
  obtain ⟨A, c, e, _⟩ := MO.form h
  exact ⟨A, c, e⟩
end EW
end Go.Proofs.YtaghlpolljaedaaGreat
