/-
  Several texts in one: LexCode1, LexCode2, LexCode3, LexCode4, LexCode. Each one's own head tells its conditions.
-/
import Derived.Test.YtaghlpolljaedaaGreatLexRefs
import Derived.Lib.Bytealg
import Derived.Lib.IndexAny
import Derived.Lib.IndexLaws
import Derived.Laws.Runes
import Derived.Laws.RangeAny
import Derived.Lib.OthersKept
import Derived.Lib.Walk
import Derived.Deep.QuietTactic
import Derived.BigQuiet
import Derived.WalkMore
import Derived.IntWalk
import Derived.Test.YtaghlpolljaedaaGreatMemAll
import Derived.Lib.ConvBytes
/-
  Contracts of the code's own parts of layer 5: isDigit, isNameChar, with strings.ContainsRune and strings.IndexRune at the marks. Condition: a rune is one that a range over a text gives.
-/
namespace Go.Proofs.YtaghlpolljaedaaGreat
open Go.RowKit
namespace LW
open LX
theorem iter_far (w : World) (s : ByteArray) (p : Nat) : MM.Far [] w (w.iter s p) := (MM.Far.refl [] w).alloc _
theorem vr_yes {r : Int} (h : (0 ≤ r ∧ r < 55296) ∨ (57343 < r ∧ r ≤ 1114111)) : validRune r = true := by unfold validRune; simpa using h
theorem vr_no {r : Int} (h : ¬ ((0 ≤ r ∧ r < 55296) ∨ (57343 < r ∧ r ≤ 1114111))) : validRune r = false := by unfold validRune; exact decide_eq_false h
theorem quiet_d {P : Program} {f : FuncId} {args : Array Value} {w : World} {n : Nat} {v : Value} (h : Calls P f args (w.drewN n) fun e w' => e = .returned v ∧ w.drewN n = w') : Calls P f args (w.drewN n) fun e w'' => e = .returned v ∧ ∃ m, w'' = w.drewN m :=
  h.mono fun _ _ ⟨he, hm⟩ => ⟨he, n, hm.symm⟩
theorem none_from (s : ByteArray) (a : Nat) (c : UInt8) (ha : ∀ i (h : i < s.size), (s[i]).toNat < 128) (hc : 128 ≤ c.toNat) : Lib.indexByte (bts (s.extract a s.size)) c = -1 := by
  unfold bts
  rw [← Lib.firstIdx_eq]
  refine firstIdx_ascii s a s.size c ?_ hc
  intro b hb
  obtain ⟨i, hi, rfl⟩ := List.mem_iff_getElem.1 hb
  have h2 : i < s.size := by rw [← bts_len]; exact hi
  have := at_bts s i h2 hi
  unfold bts at this
  rw [this]; exact ha i h2
theorem mks_low : ∀ i (h : i < mks.size), (mks[i]).toNat < 128 := by
  intro i h
  have h2 : i < 16 := h
  have : ∀ i : Fin 16, (mks[i.1]'(by have := i.2; exact this)).toNat < 128 := by decide
  exact this ⟨i, h2⟩
theorem let_mks {c : UInt8} (x1 : (decide (97 ≤ c.toNat) && decide (c.toNat ≤ 122)) = false) (x2 : (decide (65 ≤ c.toNat) && decide (c.toNat ≤ 90)) = false) (x3 : (decide (48 ≤ c.toNat) && decide (c.toNat ≤ 57)) = false) : let_ c = decide (0 ≤ Lib.indexByte (bts mks) c) := by
  rw [← Lib.contains_iff_indexByte]
  unfold let_
  rw [x1, x2, x3]
  rfl
end LW
end Go.Proofs.YtaghlpolljaedaaGreat
/-
  Contracts of the code's own parts of layer 5: nameChars, gap: a range over a text, rune by rune. No condition.
-/
namespace Go.Proofs.YtaghlpolljaedaaGreat
open Go.RowKit
namespace LW
open LX
/-- An iterator over s stands at pos, in the first block that is new since w. -/
structure It (w : World) (s : ByteArray) (pos : Nat) (wr : World) : Prop where
  far : MM.Far [] w wr
  it : wr.heap[w.heap.size]? = some (.stringIter s pos)
theorem It.begin (w : World) (s : ByteArray) : It w s 0 (w.iter s 0) := ⟨iter_far _ _ _, World.iter_heap w s 0⟩
theorem It.next {w wr : World} {s : ByteArray} {pos : Nat} (h : It w s pos wr) (p : Nat) : It w s p (wr.iterAt w.heap.size s p) := by
  refine ⟨?_, Lib.iterAt_heap wr _ s pos p h.it⟩
  refine h.far.trans (S' := [w.heap.size]) ⟨rfl, rfl, rfl, by rw [Lib.iterAt_size]; exact Nat.le_refl _, fun k _ hn => Lib.iterAt_other wr _ k s p (by simpa using hn)⟩ ?_
  intro b hb hlt
  simp at hb; omega
theorem It.to {w wr w2 : World} {s : ByteArray} {pos : Nat} (h : It w s pos wr) (f : MM.Far [] wr w2) : It w s pos w2 := by
  refine ⟨h.far.trans f (by simp), ?_⟩
  rw [f.block _ (Array.getElem?_eq_some_iff.1 h.it).1 (by simp)]
  exact h.it
theorem It.pos {w wr : World} {s : ByteArray} {pos : Nat} (h : It w s pos wr) : wr.iterPos w.heap.size = pos := by
  unfold World.iterPos; rw [h.it]
theorem ret_num {k : IntKind} {a b : Int} (h : a = b) : Ending.returned (.int k a) = .returned (.int k b) := by rw [h]
theorem let_high {c : UInt8} (h : 128 ≤ c.toNat) : let_ c = false := by
  have : ∀ c : Fin 256, 128 ≤ c.1 → let_ (UInt8.ofNat c.1) = false := by decide +kernel
  have h2 := this ⟨c.toNat, c.toNat_lt⟩ h
  simpa using h2
theorem drop_at0 (s : ByteArray) (i : Nat) (h : i < s.size) : (bts s).drop i = s[i] :: (bts s).drop (i + 1) := drop_cons s i h
def GI (s : ByteArray) (w : World) (G : Nat) (cm : Bool) (pos : Nat) (wr : World) : Prop := It w s pos wr ∧ pos + gapF cm ((bts s).drop pos) = G
theorem GI.go {s : ByteArray} {w wr w2 : World} {G pos p : Nat} {cm cm2 : Bool} (h : GI s w G cm pos wr) (h2 : It w s p w2) (e : gapF cm ((bts s).drop pos) = p - pos + gapF cm2 ((bts s).drop p)) (hp : pos ≤ p) : GI s w G cm2 p w2 := ⟨h2, by have := h.2; omega⟩
theorem hi_gap (s : ByteArray) (pos : Nat) (h : pos < s.size) (ha : 128 ≤ (s[pos]'h).toNat) : gapF true ((bts s).drop pos) = (Utf8.decode s pos).2 + gapF true ((bts s).drop (pos + (Utf8.decode s pos).2)) := by
  rw [gapF_hi (Utf8.decode s pos).2 ((bts s).drop pos) (fun j hj => ?_), List.drop_drop]
  obtain ⟨hj2, h2⟩ := decode_bytes s pos h ha j hj
  exact ⟨_, drop_at s pos j hj2, h2⟩
theorem dec_in (s : ByteArray) (pos : Nat) (h : pos < s.size) (ha : 128 ≤ (s[pos]'h).toNat) : pos + (Utf8.decode s pos).2 ≤ s.size := by
  have h1 := (decode_high s pos h ha).2
  obtain ⟨hj, _⟩ := decode_bytes s pos h ha ((Utf8.decode s pos).2 - 1) (by omega)
  omega
theorem not_eq {c : UInt8} {n : Int} (h : c.toNat ≠ n.toNat) (hn : 0 ≤ n) : ((c.toNat : Int) == n) = false := by rw [beq_eq_false_iff_ne]; omega
end LW
end Go.Proofs.YtaghlpolljaedaaGreat
/-
  Contracts of the code's own parts of layer 5: isNumber, number (with strings.TrimPrefix and strconv.Atoi at a number of at most 13 letters), word. Condition: a word has at most 5000 letters.
-/
namespace Go.Proofs.YtaghlpolljaedaaGreat
open Go.RowKit
namespace LW
open LX
theorem dig_n (c : UInt8) : dig c = (decide ((48 : Int) ≤ (c.toNat : Int)) && decide ((c.toNat : Int) ≤ 57)) := by
  unfold dig
  congr 1 <;> (apply Bool.eq_iff_iff.2; simp; omega)
theorem far_bytes (w : World) (e : TypeId) (s : ByteArray) : MM.Far [] w (Lib.bytesWorld w e s) := ⟨rfl, rfl, rfl, by rw [Lib.bytesWorld_size]; omega, fun k hk _ => Lib.bytesWorld_at_old w e s k hk⟩
/-- The bytes of x, as a row that is new since w. -/
structure By (w w1 : World) (x : ByteArray) : Prop where
  far : MM.Far [] w w1
  cell : ∀ j (h : j < x.size), w1.cell? ⟨w.heap.size, j, none⟩ = some (.int .u8 ((x[j]'h).toNat : Int))
theorem By.of (w : World) (e : TypeId) (x : ByteArray) : By w (Lib.bytesWorld w e x) x := by
  refine ⟨far_bytes w e x, fun j h => ?_⟩
  rw [Lib.bytesWorld_cell w e x j h]
  have h1 := data_at x j h
  unfold bts at h1
  rw [List.getD_eq_getElem?_getD, h1]; rfl
/-- What the code's word gives: a token without its place, or what is wrong. -/
def wordV : St → Value
  | .tok kd n s _ => .tuple #[tokV kd 0 n s, .int .i64 0]
  | .err e => .tuple #[tokV 0 0 0 emp, .int .i64 e]
  | .skip _ => .bool false
/-- A token's cells, in block b, to be read and written. -/
structure Cel (w : World) (b : Nat) (t : Tk) : Prop where
  c0 : w.cell? ⟨b, 0, none⟩ = some (.int .u8 t.kind)
  c1 : w.cell? ⟨b, 1, none⟩ = some (.int .i64 t.at_)
  c2 : w.cell? ⟨b, 2, none⟩ = some (.int .i64 t.n)
  c3 : w.cell? ⟨b, 3, none⟩ = some (.string t.s)
  f0 : w.frozen? ⟨b, 0, none⟩ = false
  f1 : w.frozen? ⟨b, 1, none⟩ = false
  f2 : w.frozen? ⟨b, 2, none⟩ = false
  f3 : w.frozen? ⟨b, 3, none⟩ = false
theorem Cel.of {w : World} {b : Nat} {T : TypeId} {t : Tk} (h : MM.Row w b T (cellsT t)) : Cel w b t :=
  ⟨h.at rfl, h.at rfl, h.at rfl, h.at rfl, h.frozen 0, h.frozen 1, h.frozen 2, h.frozen 3⟩
theorem Cel.new (w : World) (T : TypeId) (w2 : World) (F : MM.Far [] (w.alloc (.cells #[.int .u8 0, .int .i64 0, .int .i64 0, .string ⟨#[]⟩] T)) w2) : Cel w2 w.heap.size ⟨0, 0, 0, emp⟩ :=
  Cel.of ((MM.Row.new w T (cellsT ⟨0, 0, 0, emp⟩)).far F (by simp))
theorem Row.cel {w : World} {b : Nat} {T : TypeId} {x0 x1 x2 x3 : Value} {w' : World} {kd a n : Int} {s : ByteArray} (h : MM.Row w b T [x0, x1, x2, x3]) (e : w' = (((w.setCell ⟨b, 0, none⟩ (.int .u8 kd)).setCell ⟨b, 1, none⟩ (.int .i64 a)).setCell ⟨b, 2, none⟩ (.int .i64 n)).setCell ⟨b, 3, none⟩ (.string s)) : MM.Row w' b T (cellsT ⟨kd, a, n, s⟩) := by
  subst e
  exact (((h.put 0 _).put 1 _).put 2 _).put 3 _
/-- A token is written into the call's own first block. -/
theorem Cel.set {w w2 : World} {T : TypeId} {t : Tk} (R : MM.Row w2 w.heap.size T (cellsT t)) (F : MM.Far [] w w2) (kd a n : Int) (s : ByteArray) :
    Cel ((((w2.setCell ⟨w.heap.size, 0, none⟩ (.int .u8 kd)).setCell ⟨w.heap.size, 1, none⟩ (.int .i64 a)).setCell ⟨w.heap.size, 2, none⟩ (.int .i64 n)).setCell ⟨w.heap.size, 3, none⟩ (.string s)) w.heap.size ⟨kd, a, n, s⟩ ∧
    MM.Far [] w ((((w2.setCell ⟨w.heap.size, 0, none⟩ (.int .u8 kd)).setCell ⟨w.heap.size, 1, none⟩ (.int .i64 a)).setCell ⟨w.heap.size, 2, none⟩ (.int .i64 n)).setCell ⟨w.heap.size, 3, none⟩ (.string s)) := by
  refine ⟨Cel.of (Row.cel R rfl), ?_⟩
  exact (((F.setCell (fun h => absurd h (Nat.lt_irrefl _)) _).setCell (fun h => absurd h (Nat.lt_irrefl _)) _).setCell (fun h => absurd h (Nat.lt_irrefl _)) _).setCell (fun h => absurd h (Nat.lt_irrefl _)) _
theorem new_row (w : World) (T : TypeId) (w2 : World) (F : MM.Far [] (w.alloc (.cells #[.int .u8 0, .int .i64 0, .int .i64 0, .string ⟨#[]⟩] T)) w2) : MM.Row w2 w.heap.size T (cellsT ⟨0, 0, 0, emp⟩) ∧ MM.Far [] w w2 :=
  ⟨(MM.Row.new w T (cellsT ⟨0, 0, 0, emp⟩)).far F (by simp), ((MM.Far.refl [] w).alloc _).trans F (by simp)⟩
end LW
end Go.Proofs.YtaghlpolljaedaaGreat
/-
  Contracts of the code's own parts of layer 5: boolean, first: the token that a text begins with. Condition: a text is no longer than 5000 bytes.
-/
namespace Go.Proofs.YtaghlpolljaedaaGreat
open Go.RowKit
namespace LW
open LX
/-- What the code's first gives: a token without its place, and how many bytes it has; or what is wrong. -/
def FirstP (w : World) (x : St) (e : Ending) (w' : World) : Prop :=
  MM.Far [] w w' ∧ match x with
  | .tok kd n s k => e = .returned (.tuple #[tokV kd 0 n s, .int .i64 (k : Int), .int .i64 0])
  | .err x => ∃ c : Int, e = .returned (.tuple #[tokV 0 0 0 emp, .int .i64 c, .int .i64 x])
  | .skip _ => False
theorem slice_one (s x : ByteArray) (h : s.extract 1 s.size = x) (h1 : 1 ≤ s.size) (hm : s.size ≤ 5000) (W : World) : (Instr.slice 9 (.string s) (some (.int .i64 1)) none none).run Tryz.prog W = .ok (.string x) W := by
  rw [run_slice_string_from_if W 9 s .i64 _ Tryz.underlying9, if_pos ⟨by omega, by omega⟩, ← h]; rfl
theorem mark_no {c : UInt8} (h : LX.mark c = 0) : c ≠ 40 ∧ c ≠ 41 ∧ c ≠ 39 := by
  unfold LX.mark at h
  refine ⟨?_, ?_, ?_⟩ <;> (rintro rfl; exact absurd h (by decide))
theorem mark_yes {c : UInt8} (h : LX.mark c ≠ 0) : c = 40 ∨ c = 41 ∨ c = 39 := by
  unfold LX.mark at h
  by_cases h1 : c = 40
  · exact .inl h1
  · by_cases h2 : c = 41
    · exact .inr (.inl h2)
    · by_cases h3 : c = 39
      · exact .inr (.inr h3)
      · rw [if_neg h1, if_neg h2, if_neg h3] at h; exact absurd rfl h
theorem slice_to (s x : ByteArray) (n : Nat) (h : s.extract 0 n = x) (h1 : n ≤ s.size) (W : World) : (Instr.slice 9 (.string s) none (some (.int .i64 (n : Int))) none).run Tryz.prog W = .ok (.string x) W := by
  subst h
  simp [Instr.slice, Instr.sliceBounds, Instr.sliceBound, asIntOf, run_underlying Tryz.underlying9, h1]
end LW
end Go.Proofs.YtaghlpolljaedaaGreat
/-
  Contract of the code's own Lex. No condition.
-/
namespace Go.Proofs.YtaghlpolljaedaaGreat
open Go.RowKit
namespace LW
open LX
theorem slice_from (s x : ByteArray) (z : Int) (n : Nat) (h : s.extract n s.size = x) (hz : z = (n : Int)) (h1 : n ≤ s.size) (W : World) : (Instr.slice 9 (.string s) (some (.int .i64 z)) none none).run Tryz.prog W = .ok (.string x) W := by
  rw [run_slice_string_from_if W 9 s .i64 _ Tryz.underlying9, if_pos ⟨by omega, by omega⟩, ← h, hz]; rfl
theorem from_bts (s : ByteArray) (n : Nat) (h : n ≤ s.size) : bts (s.extract n s.size) = (bts s).drop n := by
  rw [show s.size = n + (s.size - n) by omega, cut_str, bts_str, List.take_of_length_le]
  rw [List.length_drop, bts_len]; exact Nat.le_refl _
theorem from_size (s : ByteArray) (n : Nat) (h : n ≤ s.size) : (s.extract n s.size).size = s.size - n := by
  rw [← bts_len, from_bts s n h, List.length_drop, bts_len]
theorem step_err {c : UInt8} {r : List UInt8} {e : Int} (h : LX.step (c :: r) = .err e) : (e == 0) = false := by
  by_cases h1 : LX.blank c = true
  · rw [step_blank h1] at h; cases h
  have h1 : LX.blank c = false := by simpa using h1
  by_cases h2 : c = 59
  · rw [step_note h1 h2] at h; cases h
  by_cases h3 : LX.mark c = 0
  · by_cases h4 : c = 35
    · rw [step_hash h1 h2 h3 h4] at h
      split at h
      · cases h
      · split at h
        · cases h
        · injection h with h; subst h; rfl
    · by_cases h5 : let_ c = true
      · rw [step_one h1 h2 h3 h4 h5] at h; exact one_err h
      · rw [step_bad h1 h2 h3 h4 (by simpa using h5)] at h
        injection h with h; subst h; rfl
  · rw [step_mark h1 h2 h3] at h; cases h
theorem step_go {c : UInt8} {r : List UInt8} {k : Nat} (h1 : LX.blank c = false) (h2 : c ≠ 59) (h : LX.step (c :: r) = .skip k) : False := by
  by_cases h3 : LX.mark c = 0
  · by_cases h4 : c = 35
    · rw [step_hash h1 h2 h3 h4] at h
      split at h
      · cases h
      · split at h <;> cases h
    · by_cases h5 : let_ c = true
      · rw [step_one h1 h2 h3 h4 h5] at h; exact one_skip h
      · rw [step_bad h1 h2 h3 h4 (by simpa using h5)] at h; cases h
  · rw [step_mark h1 h2 h3] at h; cases h
theorem step_pos {c : UInt8} {r : List UInt8} {kd n : Int} {sv : ByteArray} {k : Nat} (h : LX.step (c :: r) = .tok kd n sv k) : 0 < k := by
  rcases step_adv c r with ⟨e, he⟩ | ⟨h1, _⟩
  · rw [h] at he; cases he
  · rw [h] at h1; exact h1
/-- What holds where the code's loop begins a round: the tokens so far, and what is to come; no blank stands at i. -/
def CI (s : ByteArray) (w0 : World) (R : Except (Nat × Int) (List Tk)) (i : Nat) (v : Value) (out : List Tk) (w : World) : Prop :=
  LI s w0 R i v out w ∧ gapF false ((bts s).drop i) = 0
end LW
end Go.Proofs.YtaghlpolljaedaaGreat
