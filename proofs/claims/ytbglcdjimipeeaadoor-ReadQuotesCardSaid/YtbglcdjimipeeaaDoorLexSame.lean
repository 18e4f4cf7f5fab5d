/-
  Contracts: the document's own Lex over any text, and Same over two rows of the same tokens. No condition but sizes.
-/
import Derived.Test.YtbglcdjimipeeaaDoorLexRef6
import Derived.Test.YtbglcdjimipeeaaDoorRead
import Derived.BigQuiet
namespace Go.Proofs.YtbglcdjimipeeaaDoor
open Go.RowKit
namespace LW
open LX
/-- A row of tokens, wherever it lies. -/
def TkRow (w : World) (A : Option Addr) (ts : List Tk) : Prop :=
  ∀ (k : Nat) (h : k < ts.length), ∃ b o, A = some ⟨b, o, none⟩ ∧ b < w.heap.size ∧ w.cell? ⟨b, o + k * 4, none⟩ = some (.int .u8 ts[k].kind) ∧ w.cell? ⟨b, o + k * 4 + 1, none⟩ = some (.int .i64 ts[k].at_) ∧
    w.cell? ⟨b, o + k * 4 + 2, none⟩ = some (.int .i64 ts[k].n) ∧ w.cell? ⟨b, o + k * 4 + 3, none⟩ = some (.string ts[k].s)
theorem tks_at (ts : List Tk) (k : Nat) (h : k < ts.length) (j : Nat) (hj : j < 4) : (tks ts)[k * 4 + j]? = (cellsT ts[k])[j]? := by
  induction ts generalizing k with
  | nil => simp at h
  | cons t ts ih =>
    have e : tks (t :: ts) = cellsT t ++ tks ts := by simp [tks]
    rw [e]
    cases k with
    | zero => rw [Nat.zero_mul, Nat.zero_add, List.getElem?_append_left (by simpa [cellsT] using hj)]; rfl
    | succ k =>
      have hl : (cellsT t).length = 4 := rfl
      rw [List.getElem?_append_right (by omega), hl, show (k + 1) * 4 + j - 4 = k * 4 + j from by omega]
      exact ih k (by simpa using h)
theorem TkRow.of_src {w : World} {S : List Nat} {A : Option Addr} {ts : List Tk} (h : MM.Src w S A (tks ts)) : TkRow w A ts := by
  intro k hk
  obtain ⟨ad, e, _, hl, hc⟩ := h (by rw [tks_len]; omega)
  have c (j : Nat) (hj : j < 4) (u : Value) (hu : (cellsT ts[k])[j]? = some u) := hc (k * 4 + j) u ((tks_at ts k hk j hj).trans hu)
  obtain ⟨b, o, spot⟩ := ad
  have h0 := hc 0 _ ((tks_at ts 0 (by omega) 0 (by omega)).trans rfl)
  rw [MR.add_zero_] at h0
  obtain rfl : spot = none := MR.spot_none h0
  refine ⟨b, o, e, hl, ?_, ?_, ?_, ?_⟩
  · have := c 0 (by omega) _ rfl; rw [MR.mk_add] at this; exact this
  · have := c 1 (by omega) _ rfl; rw [MR.mk_add] at this; exact this
  · have := c 2 (by omega) _ rfl; rw [MR.mk_add] at this; exact this
  · have := c 3 (by omega) _ rfl; rw [MR.mk_add] at this; exact this
theorem TkRow.far {w w' : World} {A : Option Addr} {ts : List Tk} (h : TkRow w A ts) (f : MM.Far [] w w') : TkRow w' A ts := by
  intro k hk
  obtain ⟨b, o, e, hb, c0, c1, c2, c3⟩ := h k hk
  have g (x : Nat) : w'.cell? ⟨b, x, none⟩ = w.cell? ⟨b, x, none⟩ := f.cell (p := ⟨b, x, none⟩) hb (by simp)
  exact ⟨b, o, e, Nat.lt_of_lt_of_le hb f.size, (g _).trans c0, (g _).trans c1, (g _).trans c2, (g _).trans c3⟩
/-- What either lexer gives, and how it lies. -/
def LexQ (w0 : World) (R : Except (Nat × Int) (List Tk)) (e : Ending) (w : World) : Prop :=
  MM.Far [] w0 w ∧ match R with
  | .error (p, x) => ∃ A c, e = .returned (.tuple #[.slice A 0 c, .int .i64 (p : Int), .int .i64 x]) ∧ (A = none → c = 0)
  | .ok ts => ∃ A c, e = .returned (.tuple #[.slice A ts.length c, .int .i64 0, .int .i64 0]) ∧ ts.length ≤ c ∧ c ≤ maxLen ∧ (A = none → c = 0) ∧ MM.Src w [] A (tks ts)
theorem LexP.q {w0 w : World} {R : Except (Nat × Int) (List Tk)} {e : Ending} (h : LexP w0 R e w) : LexQ w0 R e w := by
  refine ⟨h.1, ?_⟩
  have h2 := h.2
  cases R with
  | error px => obtain ⟨p, x⟩ := px; exact ⟨none, 0, h2, fun _ => rfl⟩
  | ok ts =>
    obtain ⟨v, rfl, ho⟩ := h2
    obtain ⟨A, c, rfl, k0, k1, k2, k3, _⟩ := MO.form ho
    exact ⟨A, c, rfl, k1, k2, k0, k3 [] (by simp)⟩
end LW
end Go.Proofs.YtbglcdjimipeeaaDoor
