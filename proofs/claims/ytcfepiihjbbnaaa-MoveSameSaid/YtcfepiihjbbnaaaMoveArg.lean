/-
  The argument of layer 3's statements, read: how many words, things, words to begin at. Condition: the argument's reading.
-/
import Derived.Test.YtcfepiihjbbnaaaMoveShown
import Derived.Laws.Bits128
namespace Go.Proofs.Ytcfepiihjbbnaaa
open Go.RowKit Go.ChangeShapes Go.WideShapes Go.Deep
namespace ML
open AW
/-- One thing: its kind, and its row of words. -/
structure Tg where
  k : Int
  A : Option Addr
  l : Nat
  c : Nat
  zs : List Int
def Tg.cells (t : Tg) : List Value := [.int .i64 t.k, .slice t.A t.l t.c]
structure Tg.Ok (w : World) (t : Tg) : Prop where
  hk : (Lit.int .i64 t.k).wf = true
  hz : MR.Ints .u64 w t.A t.l t.c t.zs
structure Tgs (w : World) (a : Option Addr) (len cap : Nat) (tl : List Tg) : Prop where
  len_ : tl.length = len
  le : len ≤ cap
  max : cap ≤ maxLen
  nil : a = none → cap = 0
  elems : ∀ (i : Nat) (t : Tg), tl[i]? = some t → ∃ b off, a = some ⟨b, off, none⟩ ∧ b < w.heap.size ∧ (∀ (j : Nat) (u : Value), t.cells[j]? = some u → w.cell? ⟨b, off + i * 2 + j, none⟩ = some u) ∧ t.Ok w
section
variable {H : Type} {enc : TypeId × Value → H} {w : World} {fuel : Nat}
theorem tg_of {cs : List Value} {x : DataW H × List MemPlace} (h : DataW.trod enc Try.prog w 0 (fun _ => true) true fuel 57 cs = some x) : ∃ t : Tg, cs = t.cells ∧ t.Ok w := by
  obtain ⟨hl, hf⟩ := MR.field_of Try.underlying57 (by kernel_rfl) (by kernel_rfl) h
  obtain ⟨v0, n0, y0, e0, g0⟩ := hf 0 _ rfl
  obtain ⟨v1, n1, y1, e1, g1⟩ := hf 1 _ rfl
  obtain ⟨a0, h0, w0⟩ := MR.int_of Try.underlying3 g0
  obtain ⟨A, l, c, zs, h1, w1⟩ := MR.ints_of Try.underlying23 Try.underlying42 (by kernel_rfl) g1
  cases h0; cases h1
  refine ⟨⟨a0, A, l, c, zs⟩, ?_, w0, w1⟩
  have hl2 : cs.length = 2 := hl
  match cs, hl2 with
  | [b0, b1], _ =>
    simp at e0 e1
    subst e0; subst e1
    rfl
theorem tgs_of {cs : List Value} {x : DataW H × List MemPlace} (h : DataW.trod enc Try.prog w 0 (fun _ => true) true fuel 22 cs = some x) : ∃ a len cap tl, cs = [.slice a len cap] ∧ Tgs w a len cap tl := by
  obtain ⟨a, len, cap, xs, hcs, hcame, hel⟩ := MR.came_of 2 Try.underlying22 (by kernel_rfl) (by omega) h
  have hz : ∀ i, ∃ t : Tg, i < len → xs i = t.cells ∧ t.Ok w := by
    intro i
    by_cases h1 : i < len
    · obtain ⟨n, y, hy⟩ := hel i h1
      obtain ⟨t, h2⟩ := tg_of hy
      exact ⟨t, fun _ => h2⟩
    · exact ⟨⟨0, none, 0, 0, []⟩, fun h => absurd h h1⟩
  obtain ⟨Z, hZ⟩ := Classical.axiomOfChoice hz
  refine ⟨a, len, cap, (List.range len).map Z, hcs, by simp, hcame.le, hcame.max, hcame.nil, fun i t hi => ?_⟩
  have hil : i < len := by have := (List.getElem?_eq_some_iff.1 hi).1; simpa using this
  obtain ⟨ad, rfl, hb, hc⟩ := hcame.elems (by omega)
  simp [hil] at hi
  subst hi
  obtain ⟨_, h4⟩ := hc 0 (by omega)
  have h5 := h4 0 (.int .i64 (Z 0).k) (by rw [(hZ 0 (by omega)).1]; rfl)
  simp only [Nat.zero_mul, Nat.add_zero, MR.add_zero_] at h5
  obtain ⟨b, off, spot⟩ := ad
  obtain rfl : spot = none := MR.spot_none h5
  obtain ⟨_, h2⟩ := hc i hil
  refine ⟨b, off, rfl, hb, fun j u hu => ?_, (hZ i hil).2⟩
  have := h2 j u (by rw [(hZ i hil).1]; exact hu)
  rw [MR.mk_add] at this
  rw [Nat.add_assoc]; exact this
/-- The whole argument. -/
structure Hp (w : World) (size : Int) (a : Option Addr) (len cap : Nat) (tl : List Tg) (a2 : Option Addr) (len2 cap2 : Nat) (roots : List Int) : Prop where
  size_ : (Lit.int .i64 size).wf = true
  things : Tgs w a len cap tl
  roots : MR.Ints .u64 w a2 len2 cap2 roots
theorem hp_of {v : Value} {d : DataW H} {p : List MemPlace} {r : Reach} {b0 : Nat} (hv : Value.okWide Try.prog w r b0 25 v) (h : DataW.Trod enc Try.prog w 0 (fun _ => true) true 25 v d p) :
    ∃ size a len cap tl a2 len2 cap2 roots, v = .agg #[.int .i64 size, .slice a len cap, .slice a2 len2 cap2] ∧ Hp w size a len cap tl a2 len2 cap2 roots := by
  obtain ⟨cs, rfl, hsz⟩ := okWide_struct Try.underlying25 hv
  obtain ⟨fuel, hf⟩ := h
  have hcs : (Value.agg cs).cells.toList = cs.toList := rfl
  obtain ⟨hl, hf⟩ := MR.field_of Try.underlying25 (by kernel_rfl) (by kernel_rfl) hf
  obtain ⟨v0, n0, y0, e0, g0⟩ := hf 0 _ rfl
  obtain ⟨v1, n1, y1, e1, g1⟩ := hf 1 _ rfl
  obtain ⟨v2, n2, y2, e2, g2⟩ := hf 2 _ rfl
  obtain ⟨a0, h0, w0⟩ := MR.int_of Try.underlying3 g0
  obtain ⟨a, len, cap, tl, h1, w1⟩ := tgs_of g1
  obtain ⟨a2, len2, cap2, roots, h2, w2⟩ := MR.ints_of Try.underlying23 Try.underlying42 (by kernel_rfl) g2
  cases h0; cases h1; cases h2
  refine ⟨a0, a, len, cap, tl, a2, len2, cap2, roots, ?_, w0, w1, w2⟩
  obtain ⟨l⟩ := cs
  have hl3 : l.length = 3 := hl
  match l, hl3 with
  | [b0, b1, b2], _ =>
    simp [Value.cells] at e0 e1 e2
    subst e0; subst e1; subst e2
    rfl
end
theorem Tgs.far {w w' : World} {a : Option Addr} {len cap : Nat} {tl : List Tg} (h : Tgs w a len cap tl) (f : MM.Far [] w w') : Tgs w' a len cap tl := by
  refine ⟨h.len_, h.le, h.max, h.nil, fun i t hi => ?_⟩
  obtain ⟨b, off, e, hb, hc, hk⟩ := h.elems i t hi
  exact ⟨b, off, e, Nat.lt_of_lt_of_le hb f.size, fun j u hu => by rw [f.cell hb (by simp)]; exact hc j u hu, hk.hk, hk.hz.far f⟩
theorem Hp.far {w w' : World} {size : Int} {a : Option Addr} {len cap : Nat} {tl : List Tg} {a2 : Option Addr} {len2 cap2 : Nat} {roots : List Int} (h : Hp w size a len cap tl a2 len2 cap2 roots) (f : MM.Far [] w w') : Hp w' size a len cap tl a2 len2 cap2 roots :=
  ⟨h.size_, h.things.far f, h.roots.far f⟩
/-! ### how many words -/
theorem and1023 (n : Int) : bits .and .i64 n 1023 = n % 1024 := by
  have h127 : (BitVec.ofInt 64 1023).toNat = 2 ^ 10 - 1 := by decide
  have key : (BitVec.ofInt 64 n &&& BitVec.ofInt 64 1023).toNat = (n % ((2 ^ 64 : Nat) : Int)).toNat % 2 ^ 10 := by
    rw [BitVec.toNat_and, BitVec.toNat_ofInt, h127, Nat.and_two_pow_sub_one_eq_mod]
  show IntKind.i64.wrap ((BitVec.ofInt 64 n &&& BitVec.ofInt 64 1023).toNat : Nat) = n % 1024
  rw [key, IntKind.wrap_i64]
  omega
theorem and20 (n : Int) : ∃ b : Nat, bits .and .i64 n 1048576 = b ∧ b ≤ 1048576 := by
  have h20 : (BitVec.ofInt 64 1048576).toNat = 1048576 := by decide
  have hle : (BitVec.ofInt 64 n &&& BitVec.ofInt 64 1048576).toNat ≤ 1048576 := by
    rw [BitVec.toNat_and, h20]; exact Nat.and_le_right
  refine ⟨(BitVec.ofInt 64 n &&& BitVec.ofInt 64 1048576).toNat, ?_, hle⟩
  show IntKind.i64.wrap ((BitVec.ofInt 64 n &&& BitVec.ofInt 64 1048576).toNat : Nat) = _
  rw [IntKind.wrap_i64]
  omega
end ML
end Go.Proofs.Ytcfepiihjbbnaaa
