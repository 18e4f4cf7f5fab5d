/-
  The walk of ArenaSets: of a thing each word is what was set last, or made. Condition: the arguments' readings.
-/
import Derived.Test.YtokpiljbcbemlaaArenaSt
import Derived.Test.YtokpiljbcbemlaaArenaPl
import Derived.Deep.RegionHeld3
import Derived.Laws.Bits128
namespace Go.Proofs.Ytokpiljbcbemlaa
open Go.RowKit
namespace AL
open AW
def two (l0 l1 : List Int) : List AP.Th := [⟨1, l0⟩, ⟨2, l1⟩]
theorem and15 (n : Int) : bits .and .i64 n 15 = n % 16 := by
  have h127 : (BitVec.ofInt 64 15).toNat = 2 ^ 4 - 1 := by decide
  have key : (BitVec.ofInt 64 n &&& BitVec.ofInt 64 15).toNat = (n % ((2 ^ 64 : Nat) : Int)).toNat % 2 ^ 4 := by
    rw [BitVec.toNat_and, BitVec.toNat_ofInt, h127, Nat.and_two_pow_sub_one_eq_mod]
  show IntKind.i64.wrap ((BitVec.ofInt 64 n &&& BitVec.ofInt 64 15).toNat : Nat) = n % 16
  rw [key, IntKind.wrap_i64]
  omega
theorem and1 (n : Int) : bits .and .u8 n 1 = n % 2 := by
  have h127 : (BitVec.ofInt 8 1).toNat = 2 ^ 1 - 1 := by decide
  have key : (BitVec.ofInt 8 n &&& BitVec.ofInt 8 1).toNat = (n % ((2 ^ 8 : Nat) : Int)).toNat % 2 ^ 1 := by
    rw [BitVec.toNat_and, BitVec.toNat_ofInt, h127, Nat.and_two_pow_sub_one_eq_mod]
  show IntKind.u8.wrap ((BitVec.ofInt 8 n &&& BitVec.ofInt 8 1).toNat : Nat) = n % 2
  rw [key]
  have : IntKind.u8.wrap (((n % ((2 ^ 8 : Nat) : Int)).toNat % 2 ^ 1 : Nat) : Int) = (((n % ((2 ^ 8 : Nat) : Int)).toNat % 2 ^ 1 : Nat) : Int) := by
    simp [IntKind.wrap, IntKind.bits, IntKind.signed]; omega
  rw [this]; omega
/-- The arena and what is wanted of it, side by side. -/
structure Sv (w wr : World) (B p g h wb b0 b1 ab : Nat) (fv : Value) (fl : List Act) (n0 n1 : Nat) (Q : Int) (l0 l1 : List Int) : Prop where
  ar : Ar wr p g h 30 (two l0 l1)
  want : MM.Row wr wb 59 [.slice (some ⟨b0, 0, none⟩) n0 n0, .slice (some ⟨b1, 0, none⟩) n1 n1]
  r0 : MM.Row wr b0 42 (U64s l0)
  r1 : MM.Row wr b1 42 (U64s l1)
  at_ : MM.Row wr ab 60 [.int .u64 1, .int .u64 Q]
  few : wr.ownsRow B 63 6 fv fl.length (flat fl)
  len0 : l0.length = n0
  len1 : l1.length = n1
  ne : b0 ≠ b1 ∧ b0 ≠ g ∧ b1 ≠ g
  low : w.heap.size ≤ p ∧ w.heap.size ≤ g ∧ w.heap.size ≤ h ∧ w.heap.size ≤ b0 ∧ w.heap.size ≤ b1
  far : MM.Far [] w wr
section
variable {w wr w' : World} {B p g h wb b0 b1 ab : Nat} {fv : Value} {fl : List Act} {n0 n1 : Nat} {Q : Int} {l0 l1 : List Int}
theorem Sv.new (s : Sv w wr B p g h wb b0 b1 ab fv fl n0 n1 Q l0 l1) (f : MM.Far [] wr w') : Sv w w' B p g h wb b0 b1 ab fv fl n0 n1 Q l0 l1 :=
  ⟨s.ar.far f (by simp) (by simp) (by simp), s.want.far f (by simp), s.r0.far f (by simp), s.r1.far f (by simp), s.at_.far f (by simp), MM.own_far s.few f (by simp), s.len0, s.len1, s.ne, s.low, s.far.trans f (by simp)⟩
/-- The arena has turned, and nothing else. -/
theorem Sv.rest (s : Sv w wr B p g h wb b0 b1 ab fv fl n0 n1 Q l0 l1) (f : MM.Far [g] wr w') :
    MM.Row w' wb 59 [.slice (some ⟨b0, 0, none⟩) n0 n0, .slice (some ⟨b1, 0, none⟩) n1 n1] ∧ MM.Row w' b0 42 (U64s l0) ∧ MM.Row w' b1 42 (U64s l1) ∧ MM.Row w' ab 60 [.int .u64 1, .int .u64 Q] ∧
      w'.ownsRow B 63 6 fv fl.length (flat fl) ∧ MM.Far [] w w' := by
  have hg := s.ar.words
  have h1 := s.want.ne hg (by decide)
  have h2 := s.at_.ne hg (by decide)
  have hn := s.ne
  have hl := s.low
  refine ⟨s.want.far f (by simp; omega), s.r0.far f (by simp; omega), s.r1.far f (by simp; omega), s.at_.far f (by simp; omega), MM.own_far s.few f (fun b hb hm => ?_), s.far.trans f (by simp; omega)⟩
  have : b = g := by simpa using hm
  subst this
  exact MM.own_row_ne s.few hg (by decide) hb
theorem Sv.stay (s : Sv w wr B p g h wb b0 b1 ab fv fl n0 n1 Q l0 l1) (f : MM.Far [g] wr w') (a : Ar w' p g h 30 (two l0 l1)) : Sv w w' B p g h wb b0 b1 ab fv fl n0 n1 Q l0 l1 := by
  obtain ⟨k1, k2, k3, k4, k5, k6⟩ := s.rest f
  exact ⟨a, k1, k2, k3, k4, k5, s.len0, s.len1, s.ne, s.low, k6⟩
theorem Sv.put0 (s : Sv w wr B p g h wb b0 b1 ab fv fl n0 n1 Q l0 l1) (f : MM.Far [g] wr w') {i : Nat} {v : Int} (a : Ar w' p g h 30 (two (l0.set i v) l1)) : Sv w (w'.setCell ⟨b0, i, none⟩ (.int .u64 v)) B p g h wb b0 b1 ab fv fl n0 n1 Q (l0.set i v) l1 := by
  obtain ⟨k1, k2, k3, k4, k5, k6⟩ := s.rest f
  have hn := s.ne
  have hl := s.low
  have ff : MM.Far [b0] w' (w'.setCell ⟨b0, i, none⟩ (.int .u64 v)) := (MM.Far.refl _ _).setCell (by simp) _
  have e1 := k1.ne k2 (by decide)
  have e2 := k4.ne k2 (by decide)
  have e3 := a.head.ne k2 (by decide)
  have e4 := a.kinds.ne k2 (by decide)
  have hr := k2.put i (.int .u64 v)
  refine ⟨a.far ff (by simp; omega) (by simp; omega) (by simp; omega), k1.far ff (by simp; omega), ?_, k3.far ff (by simp; omega), k4.far ff (by simp; omega), MM.own_far k5 ff (fun b hb hm => ?_), by simpa using s.len0, s.len1, s.ne, s.low, k6.trans ff (by simp; omega)⟩
  · unfold U64s at hr ⊢; rw [List.map_set]; exact hr
  · have : b = b0 := by simpa using hm
    subst this
    exact MM.own_row_ne k5 k2 (by decide) hb
theorem Sv.put1 (s : Sv w wr B p g h wb b0 b1 ab fv fl n0 n1 Q l0 l1) (f : MM.Far [g] wr w') {i : Nat} {v : Int} (a : Ar w' p g h 30 (two l0 (l1.set i v))) : Sv w (w'.setCell ⟨b1, i, none⟩ (.int .u64 v)) B p g h wb b0 b1 ab fv fl n0 n1 Q l0 (l1.set i v) := by
  obtain ⟨k1, k2, k3, k4, k5, k6⟩ := s.rest f
  have hn := s.ne
  have hl := s.low
  have ff : MM.Far [b1] w' (w'.setCell ⟨b1, i, none⟩ (.int .u64 v)) := (MM.Far.refl _ _).setCell (by simp) _
  have e1 := k1.ne k3 (by decide)
  have e2 := k4.ne k3 (by decide)
  have e3 := a.head.ne k3 (by decide)
  have e4 := a.kinds.ne k3 (by decide)
  have hr := k3.put i (.int .u64 v)
  refine ⟨a.far ff (by simp; omega) (by simp; omega) (by simp; omega), k1.far ff (by simp; omega), k2.far ff (by simp; omega), ?_, k4.far ff (by simp; omega), MM.own_far k5 ff (fun b hb hm => ?_), s.len0, by simpa using s.len1, s.ne, s.low, k6.trans ff (by simp; omega)⟩
  · unfold U64s at hr ⊢; rw [List.map_set]; exact hr
  · have : b = b1 := by simpa using hm
    subst this
    exact MM.own_row_ne k5 k3 (by decide) hb
end
/-! ### what is told -/
theorem two_pl (l0 l1 : List Int) : pl (two l0 l1) 0 = 1 ∧ pl (two l0 l1) 1 = WP.ofW 1 ((l0.length + 1 : Nat) : Int) := by
  refine ⟨show WP.ofW 1 ((0 : Nat) : Int) = 1 by decide, ?_⟩
  unfold pl; simp [two, AP.sz]
section
variable {l0 l1 : List Int} {n : Nat}
theorem two_look (hO : Ok n (two l0 l1)) {Q : Int} (hQ : WP.ofW 1 ((l0.length + 1 : Nat) : Int) = Q) : AW.look (two l0 l1) 1 = some 0 ∧ AW.look (two l0 l1) Q = some 1 := by
  have h0 := look_pl hO (i := 0) (by simp [two])
  have h1 := look_pl hO (i := 1) (by simp [two])
  rw [(two_pl l0 l1).1] at h0
  rw [(two_pl l0 l1).2, hQ] at h1
  exact ⟨h0, h1⟩
theorem at0 {X : Int} (h : AW.look (two l0 l1) X = some 0) (i : Nat) (v : Int) :
    (i < l0.length → setT (two l0 l1) X i v = two (l0.set i v) l1 ∧ getE (two l0 l1) X i = 0 ∧ getW (two l0 l1) X i = l0.getD i 0) ∧ (¬ i < l0.length → setT (two l0 l1) X i v = two l0 l1 ∧ getE (two l0 l1) X i = 1) := by
  have ht : AP.th (two l0 l1) 0 = ⟨1, l0⟩ := rfl
  unfold setT getE getW
  rw [h]
  simp only [ht]
  refine ⟨fun hi => ?_, fun hi => ?_⟩
  · rw [if_pos (by omega), if_pos (by omega), if_pos (by omega), Int.toNat_natCast]
    exact ⟨rfl, rfl, rfl⟩
  · rw [if_neg (by omega), if_neg (by omega)]
    exact ⟨rfl, rfl⟩
theorem at1 {X : Int} (h : AW.look (two l0 l1) X = some 1) (i : Nat) (v : Int) :
    (i < l1.length → setT (two l0 l1) X i v = two l0 (l1.set i v) ∧ getE (two l0 l1) X i = 0 ∧ getW (two l0 l1) X i = l1.getD i 0) ∧ (¬ i < l1.length → setT (two l0 l1) X i v = two l0 l1 ∧ getE (two l0 l1) X i = 1) := by
  have ht : AP.th (two l0 l1) 1 = ⟨2, l1⟩ := rfl
  unfold setT getE getW
  rw [h]
  simp only [ht]
  refine ⟨fun hi => ?_, fun hi => ?_⟩
  · rw [if_pos (by omega), if_pos (by omega), if_pos (by omega), Int.toNat_natCast]
    exact ⟨rfl, rfl, rfl⟩
  · rw [if_neg (by omega), if_neg (by omega)]
    exact ⟨rfl, rfl⟩
end
end AL
end Go.Proofs.Ytokpiljbcbemlaa
