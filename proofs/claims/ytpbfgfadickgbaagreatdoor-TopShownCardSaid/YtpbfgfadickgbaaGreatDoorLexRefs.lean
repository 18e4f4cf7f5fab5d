/-
  Several texts in one: LexRef1, LexRef2, LexRef3, LexRef4, LexRef5, LexRef6, LexGap, LexSame. Each one's own head tells its conditions.
-/
import Derived.Test.YtpbfgfadickgbaaGreatDoorProg
import Derived.Test.YtpbfgfadickgbaaGreatDoorMemAll
import Derived.Test.YtpbfgfadickgbaaGreatDoorLexPure
import Derived.Lib.Hide
import Derived.Lib.Strings
import Derived.WalkKit
import Derived.WalkSpells
import Derived.WalkLawsBesides
import Derived.Laws.RangeAny
import Derived.BigQuiet
/-
  Contracts of the document's own parts of layer 5: letter, mark, word. Condition: a text is no longer than 2^47 bytes.
-/
namespace Go.Proofs.YtpbfgfadickgbaaGreatDoor
open Go.RowKit
namespace LW
open LX
theorem data_at (s : ByteArray) (k : Nat) (h : k < s.size) : (bts s)[k]? = some s[k] := by
  unfold bts
  have h1 : k < s.data.size := h
  rw [Array.getElem?_toList, Array.getElem?_eq_getElem h1]; rfl
theorem bts_len (s : ByteArray) : (bts s).length = s.size := by unfold bts; rw [Array.length_toList]; rfl
def mks : ByteArray := ⟨#[33, 36, 37, 38, 42, 43, 45, 47, 58, 60, 61, 62, 63, 94, 95, 126]⟩
def NoneOf (m : ByteArray) (c : UInt8) (k : Nat) : Prop := ∀ j, j < k → (bts m)[j]? ≠ some c
theorem noneof_hit {m : ByteArray} {c : UInt8} {k : Nat} (h : k < m.size) (e : m[k] = c) : decide (c ∈ bts m) = true := by
  have h1 := data_at m k h
  rw [e] at h1
  simp [List.mem_of_getElem? h1]
theorem noneof_step {m : ByteArray} {c : UInt8} {k : Nat} (hn : NoneOf m c k) (h : k < m.size) (e : m[k] ≠ c) : NoneOf m c (k + 1) := by
  intro j hj
  by_cases hjk : j = k
  · subst hjk; rw [data_at m j h]; simpa using e
  · exact hn j (by omega)
theorem noneof_all {m : ByteArray} {c : UInt8} (hn : NoneOf m c m.size) : decide (c ∈ bts m) = false := by
  have h1 : c ∉ bts m := by
    intro hm
    obtain ⟨j, hj, e⟩ := List.mem_iff_getElem.1 hm
    exact hn j (by rw [← bts_len]; exact hj) (by rw [List.getElem?_eq_getElem hj, e])
  simp [h1]
end LW
end Go.Proofs.YtpbfgfadickgbaaGreatDoor
/-
  Contracts of the document's own parts of layer 5: mark, word, number, value. Conditions: a text is no longer than 5000 bytes; what is a number has at most 14 letters.
-/
namespace Go.Proofs.YtpbfgfadickgbaaGreatDoor
open Go.RowKit
namespace LX
theorem tw_yes {p : UInt8 → Bool} {l : List UInt8} {j : Nat} (h : j < (l.takeWhile p).length) : ∃ x, l[j]? = some x ∧ p x = true := by
  induction l generalizing j with
  | nil => simp at h
  | cons c l ih =>
    rw [List.takeWhile_cons] at h
    split at h
    · rename_i hc
      cases j with
      | zero => exact ⟨c, rfl, hc⟩
      | succ j => simpa using ih (by simpa using h)
    · simp at h
theorem tw_no {p : UInt8 → Bool} {l : List UInt8} (h : (l.takeWhile p).length < l.length) : ∃ x, l[(l.takeWhile p).length]? = some x ∧ p x = false := by
  induction l with
  | nil => simp at h
  | cons c l ih =>
    by_cases hc : p c = true
    · simp only [List.takeWhile_cons, hc, if_true, List.length_cons] at h ⊢
      simpa using ih (by omega)
    · have hc' : p c = false := by simpa using hc
      simp only [List.takeWhile_cons, hc', Bool.false_eq_true, if_false]
      exact ⟨c, rfl, hc'⟩
theorem tw_take (p : UInt8 → Bool) (l : List UInt8) : l.takeWhile p = l.take (l.takeWhile p).length := by
  induction l with
  | nil => rfl
  | cons c l ih =>
    by_cases hc : p c = true
    · simp only [List.takeWhile_cons, hc, if_true, List.length_cons, List.take_succ_cons]
      rw [← ih]
    · simp [hc]
end LX
namespace LW
open LX
theorem ret_str {a b : ByteArray} (h : a = b) : Ending.returned (.string a) = .returned (.string b) := by rw [h]
theorem drop_at (s : ByteArray) (a j : Nat) (h : a + j < s.size) : ((bts s).drop a)[j]? = some s[a + j] := by
  rw [List.getElem?_drop, data_at s (a + j) h]
theorem cut_str (s : ByteArray) (a k : Nat) : s.extract a (a + k) = str (((bts s).drop a).take k) := by
  apply ByteArray.ext
  apply Array.toList_inj.1
  rw [Lib.extract_data]
  unfold str bts
  simp
def Digs (s : ByteArray) (k : Nat) : Prop := ∀ j (h : j < s.size), j < k → dig s[j] = true
theorem at_bts (s : ByteArray) (j : Nat) (h : j < s.size) (h2 : j < (bts s).length) : (bts s)[j] = s[j] := by
  have := data_at s j h
  rw [List.getElem?_eq_getElem h2] at this
  exact Option.some.inj this
theorem digs_all {s : ByteArray} (h : Digs s s.size) : (bts s).all dig = true := by
  rw [List.all_eq_true]
  intro x hx
  obtain ⟨j, hj, rfl⟩ := List.mem_iff_getElem.1 hx
  have hj2 : j < s.size := by rw [← bts_len]; exact hj
  rw [at_bts s j hj2 hj]
  exact h j hj2 hj2
theorem digs_no {s : ByteArray} {j : Nat} (hj : j < s.size) (h : dig s[j] = false) : (bts s).all dig = false := by
  rw [List.all_eq_false]
  exact ⟨_, List.mem_of_getElem? (data_at s j hj), by simp [h]⟩
theorem digs_step {s : ByteArray} {k : Nat} (h : Digs s k) (hk : k < s.size) (hd : dig s[k] = true) : Digs s (k + 1) := by
  intro j hj hjk
  by_cases e : j = k
  · subst e; exact hd
  · exact h j hj (by omega)
theorem ret_bool {a b : Bool} (h : a = b) : Ending.returned (.bool a) = .returned (.bool b) := by rw [h]
theorem dig_yes {c : UInt8} (h : dig c = true) : 48 ≤ c.toNat ∧ c.toNat ≤ 57 := by simpa [dig] using h
theorem dig_no {c : UInt8} (h : dig c = false) : c.toNat < 48 ∨ 57 < c.toNat := by
  simp [dig] at h; omega
end LW
end Go.Proofs.YtpbfgfadickgbaaGreatDoor
/-
  Contracts of the document's own parts of layer 5: number and value, over any word. Conditions: the word is not empty; for value, it is a number of at most 14 letters.
-/
namespace Go.Proofs.YtpbfgfadickgbaaGreatDoor
open Go.RowKit
namespace LX
theorem bts_str (l : List UInt8) : bts (str l) = l := by unfold bts str; simp
theorem str_bts (s : ByteArray) : str (bts s) = s := by
  apply ByteArray.ext
  unfold str bts
  simp
theorem str_size (l : List UInt8) : (str l).size = l.length := by unfold str; show l.toArray.size = _; simp
theorem val_snoc (l : List UInt8) (c : UInt8) : val (l ++ [c]) = val l * 10 + ((c.toNat : Int) - 48) := by
  unfold val; rw [List.foldl_append]; rfl
theorem val_fold (l : List UInt8) : ∀ a : Int, 0 ≤ a → l.all dig = true → 0 ≤ l.foldl (fun n c => n * 10 + ((c.toNat : Int) - 48)) a ∧ l.foldl (fun n c => n * 10 + ((c.toNat : Int) - 48)) a < (a + 1) * (10 : Int) ^ l.length := by
  induction l with
  | nil => intro a ha _; simp; omega
  | cons c l ih =>
    intro a ha h
    rw [List.all_cons, Bool.and_eq_true] at h
    have hc : 48 ≤ c.toNat ∧ c.toNat ≤ 57 := by have := h.1; simpa [dig] using this
    obtain ⟨h1, h2⟩ := ih (a * 10 + ((c.toNat : Int) - 48)) (by omega) h.2
    refine ⟨h1, Int.lt_of_lt_of_le h2 ?_⟩
    have hp : (0 : Int) ≤ (10 : Int) ^ l.length := Int.pow_nonneg (by decide)
    have := Int.mul_le_mul_of_nonneg_right (show a * 10 + ((c.toNat : Int) - 48) + 1 ≤ (a + 1) * 10 by omega) hp
    rw [List.length_cons, Int.pow_succ]
    rw [Int.mul_assoc] at this
    rw [Int.mul_comm ((10 : Int) ^ l.length) 10]
    exact this
theorem val_bound (l : List UInt8) (h : l.all dig = true) : 0 ≤ val l ∧ val l < (10 : Int) ^ l.length := by
  have := val_fold l 0 (by decide) h
  simpa [val] using this
theorem val_small (l : List UInt8) (h : l.all dig = true) (hl : l.length ≤ 14) : 0 ≤ val l ∧ val l < 100000000000000 := by
  obtain ⟨h1, h2⟩ := val_bound l h
  refine ⟨h1, Int.lt_of_lt_of_le h2 ?_⟩
  have h := Nat.pow_le_pow_right (n := 10) (by decide) hl
  have e : ((10 ^ l.length : Nat) : Int) = (10 : Int) ^ l.length := by rw [Int.natCast_pow]; rfl
  rw [← e]; omega
end LX
namespace LW
open LX
theorem val_step {x : ByteArray} {k : Nat} (h : k < x.size) : val ((bts x).take (k + 1)) = val ((bts x).take k) * 10 + (((x[k]).toNat : Int) - 48) := by
  have hk : k < (bts x).length := by rw [bts_len]; exact h
  rw [List.take_succ_eq_append_getElem hk, val_snoc, at_bts x k h hk]; rfl
theorem val_take {x : ByteArray} {k : Nat} (hd : (bts x).all dig = true) (hn : x.size ≤ 14) : 0 ≤ val ((bts x).take k) ∧ val ((bts x).take k) < 100000000000000 := by
  refine val_small _ ?_ ?_
  · rw [List.all_eq_true] at hd ⊢
    exact fun c hc => hd c (List.mem_of_mem_take hc)
  · rw [List.length_take, bts_len]; omega
theorem dig_at {x : ByteArray} {k : Nat} (hd : (bts x).all dig = true) (h : k < x.size) : dig x[k] = true := by
  rw [List.all_eq_true] at hd
  exact hd _ (List.mem_of_getElem? (data_at x k h))
end LW
end Go.Proofs.YtpbfgfadickgbaaGreatDoor
/-
  Contract of the document's own part 'one' of layer 5: a word as a token. Conditions: the word is not empty and has at most 5000 letters.
-/
namespace Go.Proofs.YtpbfgfadickgbaaGreatDoor
open Go.RowKit
namespace LW
open LX
theorem tok_info : (Tryz.prog.info? 50).map (fun i => (i.zero, i.size, i.bytes)) = some (some (.agg #[.int .u8 0, .int .i64 0, .int .i64 0, .string ⟨#[]⟩]), 4, 40) := by kernel_rfl
/-- A token as a value. -/
def tokV (kd a n : Int) (s : ByteArray) : Value := .agg #[.int .u8 kd, .int .i64 a, .int .i64 n, .string s]
def oneV (a : Int) : St → Value
  | .tok kd n s _ => .tuple #[tokV kd a n s, .int .i64 0]
  | .err e => .tuple #[tokV 0 0 0 emp, .int .i64 e]
  | .skip _ => .bool false
end LW
end Go.Proofs.YtpbfgfadickgbaaGreatDoor
/-
  The row of tokens that a lexer builds: what it owns, one token more. No condition but sizes.
-/
namespace Go.Proofs.YtpbfgfadickgbaaGreatDoor
open Go.RowKit
namespace LX
def cellsT (t : Tk) : List Value := [.int .u8 t.kind, .int .i64 t.at_, .int .i64 t.n, .string t.s]
def tks (ts : List Tk) : List Value := ts.flatMap cellsT
theorem tks_snoc (ts : List Tk) (t : Tk) : tks (ts ++ [t]) = tks ts ++ cellsT t := by simp [tks]
theorem tks_len (ts : List Tk) : (tks ts).length = ts.length * 4 := by
  induction ts with
  | nil => rfl
  | cons t ts ih => simp only [tks, List.flatMap_cons, List.length_append, List.length_cons] at ih ⊢; rw [ih]; simp [cellsT]; omega
end LX
namespace LW
open LX
theorem toks_slice : Tryz.prog.underlying 43 = some (.slice 50) := by kernel_rfl
structure Lx (w0 w : World) (v : Value) (out : List Tk) : Prop where
  own : w.ownsRow w0.heap.size 50 4 v out.length (tks out)
  far : MM.Far [] w0 w
theorem Lx.begin (w : World) : Lx w w (.slice none 0 0) [] := ⟨MO.none_ _ _ _ _, MM.Far.refl _ _⟩
theorem Lx.to {w0 w w' : World} {v : Value} {out : List Tk} (h : Lx w0 w v out) (f : MM.Far [] w w') : Lx w0 w' v out :=
  ⟨MM.own_far h.own f (by simp), h.far.trans f (by simp)⟩
theorem cellsT_one (t : Tk) : ∀ u ∈ cellsT t, u.oneCell' = true := by
  intro u hu
  simp only [cellsT, List.mem_cons, List.not_mem_nil, or_false] at hu
  rcases hu with rfl | rfl | rfl | rfl <;> rfl
theorem lx_push {ops : Array Oper} {rest : List Oper} {o : Oper} {a : Act} {Q : Exit → Act → World → Prop} (w0 w : World) (v : Value) (out : List Tk) (t : Tk) (hL : Lx w0 w v out) (hlen : out.length ≤ 100000)
    (hgd : o.guard = none) (s x : Operand) (ho : o.op = .call { callee := .builtin .append, args := #[s, x], argTypes := #[43, 43] })
    (hs : a.eval s = v) (hx : a.eval x = .slice (some ⟨w.heap.size, 0, none⟩) 1 1)
    (h : ∀ v' w', Lx w0 w' v' (out ++ [t]) → wpList Tryz.prog ops Q rest (a.put o.dst v') w') :
    wpList Tryz.prog ops Q (o :: rest) a (w.alloc (.cells #[.int .u8 t.kind, .int .i64 t.at_, .int .i64 t.n, .string t.s] 50)) := by
  have hF : MM.Far [] w (w.alloc (.cells #[.int .u8 t.kind, .int .i64 t.at_, .int .i64 t.n, .string t.s] 50)) := (MM.Far.refl [] w).alloc _
  have hL2 := hL.to hF
  have hb := hL2.far.size
  refine MO.wpList_append _ hgd s x 43 ho w0.heap.size 50 (.agg #[.int .u8 0, .int .i64 0, .int .i64 0, .string ⟨#[]⟩]) 4 40 toks_slice tok_info rfl (by omega) v out.length (tks out) hs hL2.own (some ⟨w.heap.size, 0, none⟩) 1 1 (cellsT t) hx rfl (fun h => by cases h) [] ?_ (cellsT_one t) ?_ ?_ hb ?_
  · exact MM.Src.row (MM.Row.new w 50 (cellsT t)) (by simp) _ (fun j u hu => hu)
  · simp only [maxLen]; omega
  · omega
  · intro v' w' hv hg hat
    refine h v' w' ⟨?_, ?_⟩
    · rw [tks_snoc, List.length_append]; exact hv
    · refine hL2.far.trans (MM.Far.of_grown (S := v.ownBlock.toList) hg (fun b hb _ => by simp [hb])) ?_
      intro b hb hlt
      have := (MM.own_lt hL.own b (by simpa using hb)).2
      omega
def LexP (w0 : World) (R : Except (Nat × Int) (List Tk)) (e : Ending) (w : World) : Prop :=
  MM.Far [] w0 w ∧ match R with
  | .error (p, x) => e = .returned (.tuple #[.slice none 0 0, .int .i64 (p : Int), .int .i64 x])
  | .ok ts => ∃ v, e = .returned (.tuple #[v, .int .i64 0, .int .i64 0]) ∧ w.ownsRow w0.heap.size 50 4 v ts.length (tks ts)
theorem LexP.err {w0 w : World} {R : Except (Nat × Int) (List Tk)} {p : Nat} {x : Int} (f : MM.Far [] w0 w) (h : R = .error (p, x)) : LexP w0 R (.returned (.tuple #[.slice none 0 0, .int .i64 (p : Int), .int .i64 x])) w := by
  subst h; exact ⟨f, rfl⟩
theorem Lx.done {w0 w : World} {R : Except (Nat × Int) (List Tk)} {v : Value} {out : List Tk} (h : Lx w0 w v out) (hR : R = .ok out) : LexP w0 R (.returned (.tuple #[v, .int .i64 0, .int .i64 0])) w := by
  subst hR; exact ⟨h.far, v, rfl, h.own⟩
end LW
end Go.Proofs.YtpbfgfadickgbaaGreatDoor
/-
  Contract of the document's own Lex. No condition but that the text is no longer than a text can be.
-/
namespace Go.Proofs.YtpbfgfadickgbaaGreatDoor
open Go.RowKit
namespace LX
/-- What a step is, case by case. -/
theorem step_blank {c : UInt8} {r : List UInt8} (h : blank c = true) : step (c :: r) = .skip 1 := by unfold step; simp [h]
theorem step_note {c : UInt8} {r : List UInt8} (h : blank c = false) (h2 : c = 59) : step (c :: r) = .skip (note (c :: r)).length := by unfold step; simp only []; rw [if_neg (by rw [h]; decide), if_pos h2]
theorem step_mark {c : UInt8} {r : List UInt8} (h : blank c = false) (h2 : c ≠ 59) (h3 : mark c ≠ 0) : step (c :: r) = .tok (mark c) 0 emp 1 := by unfold step; simp [h, h2, h3]
theorem step_hash {c : UInt8} {r : List UInt8} (h : blank c = false) (h2 : c ≠ 59) (h3 : mark c = 0) (h4 : c = 35) :
    step (c :: r) = if word r = [116] then .tok 5 1 emp 2 else if word r = [102] then .tok 5 0 emp 2 else .err 50 := by unfold step; simp only []; rw [if_neg (by rw [h]; decide), if_neg h2, if_neg (fun h => h h3), if_pos h4]
theorem step_bad {c : UInt8} {r : List UInt8} (h : blank c = false) (h2 : c ≠ 59) (h3 : mark c = 0) (h4 : c ≠ 35) (h5 : let_ c = false) : step (c :: r) = .err 50 := by unfold step; simp [h, h2, h3, h4, h5]
theorem step_one {c : UInt8} {r : List UInt8} (h : blank c = false) (h2 : c ≠ 59) (h3 : mark c = 0) (h4 : c ≠ 35) (h5 : let_ c = true) : step (c :: r) = one (word (c :: r)) := by unfold step; simp [h, h2, h3, h4, h5]
theorem blank_no {c : UInt8} (h : blank c = false) : c ≠ 32 ∧ c ≠ 9 ∧ c ≠ 10 := by
  simp [blank] at h; exact ⟨h.1.1, h.1.2, h.2⟩
end LX
namespace LW
open LX
theorem eq_yes {c d : UInt8} {n : Int} (h : c = d) (e : (d.toNat : Int) = n) : (((c.toNat : Int)) == n) = true := by rw [h, e]; simp
theorem eq_no {c d : UInt8} {n : Int} (h : c ≠ d) (e : (d.toNat : Int) = n) : (((c.toNat : Int)) == n) = false := by
  rw [beq_eq_false_iff_ne, ← e]
  intro h2
  exact h (UInt8.toNat_inj.1 (by omega))
theorem drop_cons (s : ByteArray) (i : Nat) (h : i < s.size) : (bts s).drop i = s[i] :: (bts s).drop (i + 1) := by
  rw [List.drop_eq_getElem_cons (by rw [bts_len]; exact h), at_bts s i h]; rfl
theorem list_eq (a : ByteArray) : a.toList = bts a := Lib.toList_data a
theorem str_yes {l m : List UInt8} (h : l = m) : ((str l).toList == m) = true := by
  rw [list_eq, bts_str, h]; simp
theorem str_no {l m : List UInt8} (h : l ≠ m) : ((str l).toList == m) = false := by
  rw [beq_eq_false_iff_ne, list_eq, bts_str]; exact h
theorem one_err {w : List UInt8} {e : Int} (h : LX.one w = .err e) : (e == 0) = false := by
  unfold LX.one at h
  split at h
  · split at h
    · injection h with h; subst h; rfl
    · cases h
  · split at h
    · injection h with h; subst h; rfl
    · split at h
      · injection h with h; subst h; rfl
      · cases h
theorem lex_skip {s : ByteArray} {i k : Nat} {out : List Tk} {R : Except (Nat × Int) (List Tk)} (hi : i < s.size) (hR : lexL ((bts s).drop i) i out = R) (h : LX.step (s[i] :: (bts s).drop (i + 1)) = St.skip k) : lexL ((bts s).drop (i + k)) (i + k) out = R := by
  rw [drop_cons s i hi, lexL_step, h] at hR
  rw [← hR]
  simp only
  rw [← drop_cons s i hi, List.drop_drop]
theorem lex_tok {s : ByteArray} {i k : Nat} {out : List Tk} {R : Except (Nat × Int) (List Tk)} {kd n : Int} {z : ByteArray} (hi : i < s.size) (hR : lexL ((bts s).drop i) i out = R) (h : LX.step (s[i] :: (bts s).drop (i + 1)) = St.tok kd n z k) : lexL ((bts s).drop (i + k)) (i + k) (out ++ [⟨kd, i, n, z⟩]) = R := by
  rw [drop_cons s i hi, lexL_step, h] at hR
  rw [← hR]
  simp only
  rw [← drop_cons s i hi, List.drop_drop]
theorem lex_err {s : ByteArray} {i : Nat} {out : List Tk} {R : Except (Nat × Int) (List Tk)} {e : Int} (hi : i < s.size) (hR : lexL ((bts s).drop i) i out = R) (h : LX.step (s[i] :: (bts s).drop (i + 1)) = St.err e) : R = .error (i, e) := by
  rw [drop_cons s i hi, lexL_step, h] at hR
  exact hR.symm
theorem lex_fits {s : ByteArray} {i : Nat} (hi : i < s.size) : (∃ e, LX.step (s[i] :: (bts s).drop (i + 1)) = St.err e) ∨ i + adv (LX.step (s[i] :: (bts s).drop (i + 1))) ≤ s.size := by
  rcases step_adv s[i] ((bts s).drop (i + 1)) with h | ⟨_, h⟩
  · exact .inl h
  · right
    rw [← drop_cons s i hi, List.length_drop, bts_len, drop_cons s i hi] at h
    omega
def LI (s : ByteArray) (w0 : World) (R : Except (Nat × Int) (List Tk)) (i : Nat) (v : Value) (out : List Tk) (w : World) : Prop :=
  Lx w0 w v out ∧ out.length ≤ i ∧ lexL ((bts s).drop i) i out = R
end LW
end Go.Proofs.YtpbfgfadickgbaaGreatDoor
/-
  Layer 5 in plain words, besides: how many bytes a text's blanks and remarks have (gap), and what comes behind them. No condition.
-/
namespace Go.Proofs.YtpbfgfadickgbaaGreatDoor
open Go.RowKit
namespace LX
/-- How many bytes of blanks and remarks a text begins with; c: within a remark? -/
def gapF : Bool → List UInt8 → Nat
  | _, [] => 0
  | c, b :: r => if b = 10 then 1 + gapF false r else if b = 59 then 1 + gapF true r else if c = false ∧ b ≠ 32 ∧ b ≠ 9 then 0 else 1 + gapF c r
theorem gapF_nl (c : Bool) (r : List UInt8) : gapF c (10 :: r) = 1 + gapF false r := by simp [gapF]
theorem gapF_note (c : Bool) (r : List UInt8) : gapF c (59 :: r) = 1 + gapF true r := by simp [gapF]
theorem gapF_blank (c : Bool) {b : UInt8} (r : List UInt8) (h : b = 32 ∨ b = 9) : gapF c (b :: r) = 1 + gapF c r := by
  rcases h with rfl | rfl <;> simp [gapF]
theorem gapF_in {b : UInt8} (r : List UInt8) (h1 : b ≠ 10) (h2 : b ≠ 59) : gapF true (b :: r) = 1 + gapF true r := by simp [gapF, h1, h2]
theorem gapF_end {b : UInt8} (r : List UInt8) (h1 : b ≠ 10) (h2 : b ≠ 59) (h3 : b ≠ 32) (h4 : b ≠ 9) : gapF false (b :: r) = 0 := by simp [gapF, h1, h2, h3, h4]
theorem gapF_le (c : Bool) (l : List UInt8) : gapF c l ≤ l.length := by
  induction l generalizing c with
  | nil => simp [gapF]
  | cons b r ih =>
    simp only [gapF, List.length_cons]
    have h1 := ih false; have h2 := ih true; have h3 := ih c
    split
    · omega
    · split
      · omega
      · split <;> omega
/-- A remark goes on to its newline. -/
theorem gapF_true (l : List UInt8) : gapF true l = (note l).length + gapF false (l.drop (note l).length) := by
  induction l with
  | nil => rfl
  | cons b r ih =>
    by_cases h : b = 10
    · subst h
      have e : note (10 :: r) = [] := by simp [note]
      rw [e, gapF_nl]; simp [gapF_nl]
    · have e : note (b :: r) = b :: note r := by simp [note, h]
      rw [e, List.length_cons, List.drop_succ_cons]
      by_cases h2 : b = 59
      · subst h2; rw [gapF_note, ih]; omega
      · rw [gapF_in r h h2, ih]; omega
theorem gapF_hi : ∀ (k : Nat) (l : List UInt8), (∀ j, j < k → ∃ x, l[j]? = some x ∧ 128 ≤ x.toNat) → gapF true l = k + gapF true (l.drop k) := by
  intro k
  induction k with
  | zero => intro l _; simp
  | succ k ih =>
    intro l h
    obtain ⟨x, hx, h128⟩ := h 0 (by omega)
    cases l with
    | nil => simp at hx
    | cons b r =>
      have hb : b = x := by simpa using hx
      subst hb
      have n1 : b ≠ 10 := by rintro rfl; exact absurd h128 (by decide)
      have n2 : b ≠ 59 := by rintro rfl; exact absurd h128 (by decide)
      rw [gapF_in r n1 n2, ih r (fun j hj => h (j + 1) (by omega)), List.drop_succ_cons]; omega
/-- Blanks and remarks ahead of a text's rest change nothing but the place. -/
theorem lexL_gap : ∀ (f : Nat) (l : List UInt8) (a : Nat) (out : List Tk), l.length ≤ f → lexL l a out = lexL (l.drop (gapF false l)) (a + gapF false l) out := by
  intro f
  induction f with
  | zero =>
    intro l a out h
    have : l = [] := List.eq_nil_of_length_eq_zero (by omega)
    subst this; rfl
  | succ f ih =>
    intro l a out h
    cases l with
    | nil => rfl
    | cons b r =>
      rw [List.length_cons] at h
      by_cases h1 : blank b = true
      · have e : gapF false (b :: r) = 1 + gapF false r := by
          simp only [blank, Bool.or_eq_true, beq_iff_eq] at h1
          rcases h1 with (h1 | h1) | h1
          · exact gapF_blank _ r (.inl h1)
          · exact gapF_blank _ r (.inr h1)
          · subst h1; exact gapF_nl _ r
        rw [lexL_step, step_blank h1, e]
        simp only
        rw [Nat.add_comm 1, List.drop_succ_cons, List.drop_succ_cons, List.drop_zero, ih r _ _ (by omega)]
        congr 1; omega
      · have h1 : blank b = false := by simpa using h1
        by_cases h2 : b = 59
        · have e : gapF false (b :: r) = (note (b :: r)).length + gapF false ((b :: r).drop (note (b :: r)).length) := by
            have := gapF_true (b :: r)
            rw [h2, gapF_note] at this
            rw [h2, gapF_note]; exact this
          have hn0 : 0 < (note (b :: r)).length := by rw [h2]; simp [note]
          rw [lexL_step, step_note h1 h2, e]
          simp only
          rw [ih _ _ _ (by rw [List.length_drop, List.length_cons]; omega), List.drop_drop, Nat.add_assoc]
        · obtain ⟨b1, b2, b3⟩ := blank_no h1
          rw [gapF_end r b3 h2 b1 b2]; rfl
/-- What stands behind blanks and remarks is none. -/
theorem gapF_stop : ∀ (l : List UInt8) (c : Bool), gapF false (l.drop (gapF c l)) = 0 := by
  intro l
  induction l with
  | nil => intro c; rfl
  | cons b r ih =>
    intro c
    by_cases h1 : b = 10
    · subst h1; rw [gapF_nl, Nat.add_comm 1, List.drop_succ_cons]; exact ih false
    · by_cases h2 : b = 59
      · subst h2; rw [gapF_note, Nat.add_comm 1, List.drop_succ_cons]; exact ih true
      · by_cases h3 : c = false ∧ b ≠ 32 ∧ b ≠ 9
        · obtain ⟨rfl, h3, h4⟩ := h3
          rw [gapF_end r h1 h2 h3 h4, List.drop_zero, gapF_end r h1 h2 h3 h4]
        · have e : gapF c (b :: r) = 1 + gapF c r := by simp only [gapF, if_neg h1, if_neg h2, if_neg h3]
          rw [e, Nat.add_comm 1, List.drop_succ_cons]; exact ih c
theorem gapF_head {b : UInt8} {r : List UInt8} (h : gapF false (b :: r) = 0) : blank b = false ∧ b ≠ 59 := by
  by_cases h1 : b = 10
  · subst h1; rw [gapF_nl] at h; omega
  · by_cases h2 : b = 59
    · subst h2; rw [gapF_note] at h; omega
    · by_cases h3 : b = 32 ∨ b = 9
      · rw [gapF_blank _ r h3] at h; omega
      · refine ⟨?_, h2⟩
        simp only [not_or] at h3
        simp [blank, h1, h3.1, h3.2]
end LX
namespace LW
open LX
/-- The bytes of one that is above the first 128 are all above. -/
theorem decode_bytes (s : ByteArray) (i : Nat) (h : i < s.size) (ha : 128 ≤ (s[i]'h).toNat) : ∀ j, j < (Utf8.decode s i).2 → ∃ hj : i + j < s.size, 128 ≤ (s[i + j]'hj).toNat := by
  have g (k : Nat) (hk : i + k < s.size) : s.get! (i + k) = s[i + k]'hk := get_at s (i + k) hk
  have hn : ¬ (s.get! (i + 0)).toNat < 0x80 := by rw [g 0 (by omega)]; exact Nat.not_lt.2 ha
  have c0 : ∃ hj : i + 0 < s.size, 128 ≤ (s[i + 0]'hj).toNat := ⟨h, ha⟩
  have ck (k : Nat) (hc : (decide (i + k < s.size) && ((s.get! (i + k)).toNat / 64 == 2)) = true) : ∃ hj : i + k < s.size, 128 ≤ (s[i + k]'hj).toNat := by
    rw [Bool.and_eq_true, decide_eq_true_eq, beq_iff_eq] at hc
    refine ⟨hc.1, ?_⟩
    have := hc.2
    rw [g k hc.1] at this
    omega
  intro j hj
  unfold Utf8.decode at hj
  simp only [if_neg hn] at hj
  have one (hj : j < 1) : ∃ hj : i + j < s.size, 128 ≤ (s[i + j]'hj).toNat := by
    obtain rfl : j = 0 := by omega
    exact c0
  split at hj
  · rename_i hc
    rw [Bool.and_eq_true] at hc
    split at hj
    · rcases (show j = 0 ∨ j = 1 by simp only at hj; omega) with rfl | rfl
      · exact c0
      · exact ck 1 hc.2
    · exact one hj
  · split at hj
    · rename_i hc
      rw [Bool.and_eq_true, Bool.and_eq_true] at hc
      split at hj
      · rcases (show j = 0 ∨ j = 1 ∨ j = 2 by simp only at hj; omega) with rfl | rfl | rfl
        · exact c0
        · exact ck 1 hc.1.2
        · exact ck 2 hc.2
      · exact one hj
    · split at hj
      · rename_i hc
        rw [Bool.and_eq_true, Bool.and_eq_true, Bool.and_eq_true] at hc
        split at hj
        · rcases (show j = 0 ∨ j = 1 ∨ j = 2 ∨ j = 3 by simp only at hj; omega) with rfl | rfl | rfl | rfl
          · exact c0
          · exact ck 1 hc.1.1.2
          · exact ck 2 hc.1.2
          · exact ck 3 hc.2
        · exact one hj
      · exact one hj
end LW
end Go.Proofs.YtpbfgfadickgbaaGreatDoor
/-
  Contracts: the document's own Lex over any text, and Same over two rows of the same tokens. No condition but sizes.
-/
namespace Go.Proofs.YtpbfgfadickgbaaGreatDoor
open Go.RowKit
namespace LW
open LX
/-- A row of tokens, wherever it lies. -/
def TkRow (w : World) (A : Option Addr) (ts : List Tk) : Prop :=
  ∀ (k : Nat) (h : k < ts.length), ∃ b o, A = some ⟨b, o, none⟩ ∧ b < w.heap.size ∧ w.cell? ⟨b, o + k * 4, none⟩ = some (.int .u8 ts[k].kind) ∧ w.cell? ⟨b, o + k * 4 + 1, none⟩ = some (.int .i64 ts[k].at_) ∧
    w.cell? ⟨b, o + k * 4 + 2, none⟩ = some (.int .i64 ts[k].n) ∧ w.cell? ⟨b, o + k * 4 + 3, none⟩ = some (.string ts[k].s)
theorem tks_at (ts : List Tk) (k : Nat) (h : k < ts.length) (j : Nat) (hj : j < 4) : (tks ts)[k * 4 + j]? = (cellsT ts[k])[j]? := by
  induction ts generalizing k with
  | nil => simp at h
  | cons t ts ih =>
    have e : tks (t :: ts) = cellsT t ++ tks ts := by simp [tks]
    rw [e]
    cases k with
    | zero => rw [Nat.zero_mul, Nat.zero_add, List.getElem?_append_left (by simpa [cellsT] using hj)]; rfl
    | succ k =>
      have hl : (cellsT t).length = 4 := rfl
      rw [List.getElem?_append_right (by omega), hl, show (k + 1) * 4 + j - 4 = k * 4 + j from by omega]
      exact ih k (by simpa using h)
theorem TkRow.of_src {w : World} {S : List Nat} {A : Option Addr} {ts : List Tk} (h : MM.Src w S A (tks ts)) : TkRow w A ts := by
  intro k hk
  obtain ⟨ad, e, _, hl, hc⟩ := h (by rw [tks_len]; omega)
  have c (j : Nat) (hj : j < 4) (u : Value) (hu : (cellsT ts[k])[j]? = some u) := hc (k * 4 + j) u ((tks_at ts k hk j hj).trans hu)
  obtain ⟨b, o, spot⟩ := ad
  have h0 := hc 0 _ ((tks_at ts 0 (by omega) 0 (by omega)).trans rfl)
  rw [MR.add_zero_] at h0
  obtain rfl : spot = none := MR.spot_none h0
  refine ⟨b, o, e, hl, ?_, ?_, ?_, ?_⟩
  · have := c 0 (by omega) _ rfl; rw [MR.mk_add] at this; exact this
  · have := c 1 (by omega) _ rfl; rw [MR.mk_add] at this; exact this
  · have := c 2 (by omega) _ rfl; rw [MR.mk_add] at this; exact this
  · have := c 3 (by omega) _ rfl; rw [MR.mk_add] at this; exact this
theorem TkRow.far {w w' : World} {A : Option Addr} {ts : List Tk} (h : TkRow w A ts) (f : MM.Far [] w w') : TkRow w' A ts := by
  intro k hk
  obtain ⟨b, o, e, hb, c0, c1, c2, c3⟩ := h k hk
  have g (x : Nat) : w'.cell? ⟨b, x, none⟩ = w.cell? ⟨b, x, none⟩ := f.cell (p := ⟨b, x, none⟩) hb (by simp)
  exact ⟨b, o, e, Nat.lt_of_lt_of_le hb f.size, (g _).trans c0, (g _).trans c1, (g _).trans c2, (g _).trans c3⟩
/-- What either lexer gives, and how it lies. -/
def LexQ (w0 : World) (R : Except (Nat × Int) (List Tk)) (e : Ending) (w : World) : Prop :=
  MM.Far [] w0 w ∧ match R with
  | .error (p, x) => ∃ A c, e = .returned (.tuple #[.slice A 0 c, .int .i64 (p : Int), .int .i64 x]) ∧ (A = none → c = 0)
  | .ok ts => ∃ A c, e = .returned (.tuple #[.slice A ts.length c, .int .i64 0, .int .i64 0]) ∧ ts.length ≤ c ∧ c ≤ maxLen ∧ (A = none → c = 0) ∧ MM.Src w [] A (tks ts)
theorem LexP.q {w0 w : World} {R : Except (Nat × Int) (List Tk)} {e : Ending} (h : LexP w0 R e w) : LexQ w0 R e w := by
  refine ⟨h.1, ?_⟩
  have h2 := h.2
  cases R with
  | error px => obtain ⟨p, x⟩ := px; exact ⟨none, 0, h2, fun _ => rfl⟩
  | ok ts =>
    obtain ⟨v, rfl, ho⟩ := h2
    obtain ⟨A, c, rfl, k0, k1, k2, k3, _⟩ := MO.form ho
    exact ⟨A, c, rfl, k1, k2, k0, k3 [] (by simp)⟩
end LW
end Go.Proofs.YtpbfgfadickgbaaGreatDoor
