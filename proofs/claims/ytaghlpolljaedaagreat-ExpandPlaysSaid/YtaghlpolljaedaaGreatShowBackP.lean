/-
  Data that were read, shown as text, and read again, in plain words. No condition but sizes.
-/
import Derived.Test.YtaghlpolljaedaaGreatShowPlain
import Derived.Test.YtaghlpolljaedaaGreatReadQuoteF
import Derived.Test.YtaghlpolljaedaaGreatReadMays
namespace Go.Proofs.YtaghlpolljaedaaGreat
namespace SX
open LX RX
/-! ### how data lie -/
/-- Data one behind the other: P b c tells that one lies from b to c. -/
inductive Ch (P : Nat → Nat → Prop) : Nat → Nat → List Nat → Prop
  | nil (a : Nat) : Ch P a a []
  | snoc {a b c : Nat} {l : List Nat} : Ch P a b l → P b c → Ch P a (c + 1) (l ++ [c])
theorem Ch.mono {P Q : Nat → Nat → Prop} (h : ∀ b c, P b c → Q b c) {a b : Nat} {l : List Nat} (k : Ch P a b l) : Ch Q a b l := by
  induction k with
  | nil => exact .nil _
  | snoc _ hp ih => exact .snoc ih (h _ _ hp)
theorem Ch.nil_inv {P : Nat → Nat → Prop} {a b : Nat} {l : List Nat} (k : Ch P a b l) (h : l = []) : a = b := by
  cases k with
  | nil => rfl
  | snoc _ _ => simp at h
theorem Ch.snoc_inv {P : Nat → Nat → Prop} {a b : Nat} {l : List Nat} (k : Ch P a b l) {m : List Nat} {c : Nat} (h : l = m ++ [c]) : ∃ d, Ch P a d m ∧ P d c ∧ b = c + 1 := by
  cases k with
  | nil => simp at h
  | snoc k1 k2 =>
    obtain ⟨rfl, e⟩ := List.append_inj' h rfl
    injection e with e
    subst e
    exact ⟨_, k1, k2, rfl⟩
/-- A datum that is no list, of a text. -/
def Leaf (x : Nd) : Prop :=
  (x.kind = 1 ∧ x.s = emp ∧ x.l = [] ∧ (Lib.itoa x.n).all let_ = true ∧ Lib.itoa x.n ≠ [] ∧ one (Lib.itoa x.n) = .tok 4 x.n emp (Lib.itoa x.n).length) ∨
  (x.kind = 2 ∧ (x.n = 0 ∨ x.n = 1) ∧ x.s = emp ∧ x.l = []) ∨
  (x.kind = 3 ∧ x.n = 0 ∧ x.l = [] ∧ (bts x.s).all let_ = true ∧ bts x.s ≠ [] ∧ one (bts x.s) = .tok 6 0 x.s (bts x.s).length)
/-- The datum c lies from b to c; it is no deeper than k. -/
def Dat (ns : List Nd) : Nat → Nat → Nat → Prop
  | 0, b, c => b = c ∧ ∃ x, ns[c]? = some x ∧ Leaf x
  | k + 1, b, c => (b = c ∧ ∃ x, ns[c]? = some x ∧ Leaf x) ∨ ∃ x, ns[c]? = some x ∧ x.kind = 4 ∧ x.n = 0 ∧ x.s = emp ∧ Ch (Dat ns k) b c x.l
theorem dat_leaf {ns : List Nd} {k c : Nat} {x : Nd} (h : ns[c]? = some x) (hx : Leaf x) : Dat ns k c c := by
  cases k with
  | zero => exact ⟨rfl, x, h, hx⟩
  | succ k => exact .inl ⟨rfl, x, h, hx⟩
theorem Dat.mono {ns ms : List Nd} (h : ∀ (c : Nat) x, ns[c]? = some x → ms[c]? = some x) : ∀ k b c, Dat ns k b c → Dat ms k b c := by
  intro k
  induction k with
  | zero =>
    rintro b c ⟨e, x, h1, h2⟩
    exact ⟨e, x, h c x h1, h2⟩
  | succ k ih =>
    rintro b c (⟨e, x, h1, h2⟩ | ⟨x, h1, h2, h3, h4, h5⟩)
    · exact .inl ⟨e, x, h c x h1, h2⟩
    · exact .inr ⟨x, h c x h1, h2, h3, h4, h5.mono ih⟩
theorem grow_at (ns : List Nd) (x : Nd) (c : Nat) (y : Nd) (h : ns[c]? = some y) : (ns ++ [x])[c]? = some y := by
  have : c < ns.length := (List.getElem?_eq_some_iff.1 h).1
  rw [List.getElem?_append_left this]; exact h
theorem last_at (ns : List Nd) (x : Nd) : (ns ++ [x])[ns.length]? = some x := by simp
/-- What is open lies one within the other. -/
def Lv (row : List Nd) (tops : List Nat) : List Pt → Nat → Prop
  | [], e => Ch (Dat row 50) 0 e tops
  | p :: ps, e => ps.length < 50 ∧ ∃ b, Ch (Dat row (50 - (ps.length + 1))) b e p.l ∧ Lv row tops ps b
theorem Lv.mono {row : List Nd} {tops : List Nat} (x : Nd) : ∀ {ps : List Pt} {e : Nat}, Lv row tops ps e → Lv (row ++ [x]) tops ps e := by
  intro ps
  induction ps with
  | nil => intro e h; exact Ch.mono (Dat.mono (grow_at row x) 50) h
  | cons p ps ih =>
    rintro e ⟨h1, b, h2, h3⟩
    exact ⟨h1, b, h2.mono (Dat.mono (grow_at row x) _), ih h3⟩
theorem putO_lv : ∀ (ps : List Pt) (row : List Nd) (tops : List Nat) (x : Nd) (b : Nat), Lv row tops ps b → Dat (row ++ [x]) (50 - ps.length) b row.length → ps.length ≤ 50 → Lv (putO ps row tops x).row (putO ps row tops x).tops (putO ps row tops x).op (putO ps row tops x).row.length := by
  intro ps
  induction ps with
  | nil =>
    intro row tops x b h hd _
    show Ch (Dat (row ++ [x]) 50) 0 (row ++ [x]).length (tops ++ [row.length])
    rw [List.length_append, List.length_singleton]
    exact .snoc (Ch.mono (Dat.mono (grow_at row x) 50) h) hd
  | cons p ps ih =>
    intro row tops x b h hd hl
    obtain ⟨h1, b0, h2, h3⟩ := h
    have hC : Ch (Dat (row ++ [x]) (50 - (ps.length + 1))) b0 (row.length + 1) (p.l ++ [row.length]) := .snoc (h2.mono (Dat.mono (grow_at row x) _)) hd
    unfold putO
    split
    · have e : 50 - ps.length = (50 - (ps.length + 1)) + 1 := by omega
      refine ih (row ++ [x]) tops ⟨4, p.at_, 0, emp, p.l ++ [row.length]⟩ b0 (h3.mono x) ?_ (by omega)
      rw [e]
      refine .inr ⟨_, last_at _ _, rfl, rfl, rfl, ?_⟩
      rw [List.length_append, List.length_singleton]
      exact hC.mono (Dat.mono (grow_at _ _) _)
    · show Lv (row ++ [x]) tops (⟨p.at_, p.q, p.l ++ [row.length]⟩ :: ps) (row ++ [x]).length
      rw [List.length_append, List.length_singleton]
      exact ⟨h1, b0, hC, h3.mono x⟩
/-- What a token brings. -/
def TokOk (t : Tk) : Prop := (t.kind = 4 → Leaf ⟨1, t.at_, t.n, emp, []⟩) ∧ (t.kind = 5 → Leaf ⟨2, t.at_, t.n, emp, []⟩) ∧ (t.kind = 6 → Leaf ⟨3, t.at_, 0, t.s, []⟩)
theorem leaf_quote (a : Int) : Leaf ⟨3, a, 0, quoteB, []⟩ := .inr (.inr ⟨rfl, rfl, rfl, by show (bts quoteB).all let_ = true; decide, by show bts quoteB ≠ []; decide, by show one (bts quoteB) = .tok 6 0 quoteB (bts quoteB).length; kernel_rfl⟩)
theorem Lv.open {row : List Nd} {tops : List Nat} {ps : List Pt} {e : Nat} (h : Lv row tops ps e) : ps.length ≤ 50 := by
  cases ps with
  | nil => simp
  | cons p ps => have := h.1; simp; omega
theorem put_leaf {r : Rd} {x : Nd} (h : Lv r.row r.tops r.op r.row.length) (hx : Leaf x) : Lv (put r x).row (put r x).tops (put r x).op (put r x).row.length :=
  putO_lv r.op r.row r.tops x r.row.length h (dat_leaf (last_at _ _) hx) h.open
theorem token_lv {r r' : Rd} {t : Tk} (h : Lv r.row r.tops r.op r.row.length) (ht : TokOk t) (e : token r t = .ok r') : Lv r'.row r'.tops r'.op r'.row.length := by
  unfold token at e
  split at e
  · rename_i hk
    injection e with e; subst e
    exact put_leaf h (ht.1 hk)
  split at e
  · rename_i hk
    injection e with e; subst e
    exact put_leaf h (ht.2.1 hk)
  split at e
  · rename_i hk
    injection e with e; subst e
    exact put_leaf h (ht.2.2 hk)
  split at e
  · split at e
    · cases e
    · injection e with e; subst e
      exact ⟨by omega, _, .nil _, h⟩
  split at e
  · split at e
    · cases e
    · injection e with e; subst e
      exact put_leaf (r := ⟨r.row, r.tops, ⟨t.at_, true, []⟩ :: r.op⟩) ⟨by omega, _, .nil _, h⟩ (leaf_quote _)
  split at e
  · split at e
    · cases e
    · split at e
      · cases e
      · injection e with e
        subst e
        unfold close
        split
        · exact h
        · rename_i p ps hop
          rw [hop] at h
          obtain ⟨h1, b, h2, h3⟩ := h
          refine putO_lv ps r.row r.tops ⟨4, p.at_, 0, emp, p.l⟩ b h3 ?_ (by omega)
          have e : 50 - ps.length = (50 - (ps.length + 1)) + 1 := by omega
          rw [e]
          exact .inr ⟨_, last_at _ _, rfl, rfl, rfl, h2.mono (Dat.mono (grow_at _ _) _)⟩
  · injection e with e; subst e; exact h
theorem tokens_lv : ∀ (ts : List Tk) {r r' : Rd}, Lv r.row r.tops r.op r.row.length → (∀ t ∈ ts, TokOk t) → tokens ts r = .ok r' → Lv r'.row r'.tops r'.op r'.row.length := by
  intro ts
  induction ts with
  | nil => intro r r' h _ e; simp [tokens] at e; subst e; exact h
  | cons t ts ih =>
    intro r r' h hb e
    simp only [tokens] at e
    cases hT : token r t with
    | error z => rw [hT] at e; cases e
    | ok r1 =>
      rw [hT] at e
      exact ih (token_lv h (hb t (List.mem_cons_self ..)) hT) (fun u hu => hb u (List.mem_cons_of_mem _ hu)) e
/-! ### numerals -/
theorem dgN_dec : ∀ (f m : Nat), m < 10 ^ (f + 1) → dgN f m = Lib.decDigits m := by
  intro f
  induction f with
  | zero =>
    intro m h
    rw [dgN_few _ _ (by simp at h; omega), Lib.decDigits_one (by simpa using h)]; rfl
  | succ f ih =>
    intro m h
    by_cases h9 : 9 < m
    · rw [dgN_snoc _ _ h9, ih _ (by rw [Nat.pow_succ] at h; omega)]
      conv => rhs; rw [Lib.decDigits, dif_neg (by omega)]
      rfl
    · rw [dgN_few _ _ h9, Lib.decDigits_one (by omega)]; rfl
theorem dgs_itoa (n : Int) (h1 : -1099511627776 < n) (h2 : n < 1099511627776) : dgs n = Lib.itoa n := by
  unfold dgs Lib.itoa
  split
  · rw [dgN_dec 20 _ (LW.pow21 (by omega))]
    congr 2; omega
  · rw [dgN_dec 20 _ (LW.pow21 (by omega))]
theorem step_leaf {c : UInt8} {r : List UInt8} {kd n : Int} {sv : ByteArray} {k : Nat} (a : Int) (h : LX.step (c :: r) = .tok kd n sv k) : TokOk ⟨kd, a, n, sv⟩ := by
  unfold LX.step at h
  simp only at h
  split at h
  · cases h
  split at h
  · cases h
  split at h
  · injection h with e1 e2 e3 e4
    have : LX.mark c ≤ 3 := by unfold LX.mark; split <;> (try split) <;> (try split) <;> omega
    exact ⟨fun (e : kd = 4) => by omega, fun (e : kd = 5) => by omega, fun (e : kd = 6) => by omega⟩
  split at h
  · split at h
    · injection h with e1 e2 e3 e4
      exact ⟨fun (e : kd = 4) => by omega, fun _ => .inr (.inl ⟨rfl, .inr e2.symm, rfl, rfl⟩), fun (e : kd = 6) => by omega⟩
    · split at h
      · injection h with e1 e2 e3 e4
        exact ⟨fun (e : kd = 4) => by omega, fun _ => .inr (.inl ⟨rfl, .inl e2.symm, rfl, rfl⟩), fun (e : kd = 6) => by omega⟩
      · cases h
  split at h
  · cases h
  · rename_i h5
    have hlet : let_ c = true := by simpa using h5
    have hwl := word_let (c :: r)
    have hw0 : word (c :: r) ≠ [] := by
      have := word_pos (r := r) hlet
      intro e; rw [e] at this; simp at this
    generalize word (c :: r) = w at *
    have ho := h
    unfold one at h
    split at h
    · split at h
      · cases h
      · injection h with e1 e2 e3 e4
        subst e1 e2 e3 e4
        refine ⟨fun (e : (6 : Int) = 4) => by omega, fun (e : (6 : Int) = 5) => by omega, fun _ => .inr (.inr ⟨rfl, rfl, rfl, ?_, ?_, ?_⟩)⟩
        · show (bts (str w)).all let_ = true
          rw [bts_str]; exact hwl
        · show bts (str w) ≠ []
          rw [bts_str]; exact hw0
        · show one (bts (str w)) = _
          rw [bts_str]; exact ho
    · rename_i hn
      split at h
      · cases h
      · split at h
        · cases h
        · injection h with e1 e2 e3 e4
          have hn2 : number w = true := by simpa using hn
          subst e1 e2 e3
          refine ⟨fun _ => .inl ?_, fun (e : (4 : Int) = 5) => by omega, fun (e : (4 : Int) = 6) => by omega⟩
          obtain ⟨g1, g2, g3, g4⟩ := dgs_ok hn2 (by omega) (by omega) (by omega)
          rw [dgs_itoa _ (by omega) (by omega)] at g1 g2 g4
          exact ⟨rfl, rfl, rfl, g1, g2, g4⟩
theorem read_dat {s : ByteArray} {r : Rd} (h : read s = .ok r) : Ch (Dat r.row 50) 0 r.row.length r.tops := by
  obtain ⟨ts, h1, h2, h3⟩ := read_ok h
  have ht : ∀ t ∈ ts, TokOk t := lex_all TokOk (fun i hi kd n sv k hst => step_leaf _ hst) h1
  have := tokens_lv ts (r := ⟨[], [], []⟩) (Ch.nil 0) ht h2
  rw [h3] at this
  exact this
/-! ### but for where they stand -/
def bareT (t : Tk) : Tk := ⟨t.kind, 0, t.n, t.s⟩
def bareP (p : Pt) : Pt := ⟨0, p.q, p.l⟩
def bareR (r : Rd) : Rd := ⟨r.row.map bare, r.tops, r.op.map bareP⟩
theorem putO_bare : ∀ (ps : List Pt) (row : List Nd) (tops : List Nat) (x : Nd), bareR (putO ps row tops x) = putO (ps.map bareP) (row.map bare) tops (bare x) := by
  intro ps
  induction ps with
  | nil => intro row tops x; simp [putO, bareR]
  | cons p ps ih =>
    intro row tops x
    rw [List.map_cons]
    unfold putO
    by_cases hc : p.q = true ∧ p.l.length + 1 = 2
    · rw [if_pos hc, if_pos (show (bareP p).q = true ∧ (bareP p).l.length + 1 = 2 from hc), ih]
      rw [List.map_append, List.length_map]; rfl
    · rw [if_neg hc, if_neg (show ¬ ((bareP p).q = true ∧ (bareP p).l.length + 1 = 2) from hc)]
      simp [bareR, bareP]
theorem token_bare (r : Rd) (t : Tk) : token (bareR r) (bareT t) = match token r t with | .error e => .error e | .ok r' => .ok (bareR r') := by
  have hp : ∀ (r : Rd) (x : Nd), put (bareR r) (bare x) = bareR (put r x) := fun r x => (putO_bare r.op r.row r.tops x).symm
  have hol : (bareR r).op.length = r.op.length := by simp [bareR]
  have hq : inQ (bareR r) = inQ r := by
    obtain ⟨a, b, c⟩ := r
    cases c <;> rfl
  have hn : (bareR r).op = [] ↔ r.op = [] := by simp [bareR]
  obtain ⟨kd, a, n, sv⟩ := t
  have tk : ∀ (R : Rd) (kd a n : Int) (s : ByteArray), token R ⟨kd, a, n, s⟩ = if kd = 4 then .ok (put R ⟨1, a, n, emp, []⟩) else if kd = 5 then .ok (put R ⟨2, a, n, emp, []⟩) else if kd = 6 then .ok (put R ⟨3, a, 0, s, []⟩)
      else if kd = 1 then (if 50 ≤ R.op.length then .error 62 else .ok ⟨R.row, R.tops, ⟨a, false, []⟩ :: R.op⟩)
      else if kd = 3 then (if 50 ≤ R.op.length then .error 62 else .ok (put ⟨R.row, R.tops, ⟨a, true, []⟩ :: R.op⟩ ⟨3, a, 0, quoteB, []⟩))
      else if kd = 2 then (if inQ R = true then .error 63 else if R.op = [] then .error 61 else .ok (close R)) else .ok R := fun _ _ _ _ _ => rfl
  rw [show bareT ⟨kd, a, n, sv⟩ = ⟨kd, 0, n, sv⟩ from rfl, tk, tk]
  by_cases k4 : kd = 4
  · rw [if_pos k4, if_pos k4]
    exact congrArg Except.ok (hp r ⟨1, a, n, emp, []⟩)
  rw [if_neg k4, if_neg k4]
  by_cases k5 : kd = 5
  · rw [if_pos k5, if_pos k5]
    exact congrArg Except.ok (hp r ⟨2, a, n, emp, []⟩)
  rw [if_neg k5, if_neg k5]
  by_cases k6 : kd = 6
  · rw [if_pos k6, if_pos k6]
    exact congrArg Except.ok (hp r ⟨3, a, 0, sv, []⟩)
  rw [if_neg k6, if_neg k6]
  by_cases k1 : kd = 1
  · rw [if_pos k1, if_pos k1, hol]
    by_cases h : 50 ≤ r.op.length
    · rw [if_pos h, if_pos h]
    · rw [if_neg h, if_neg h]; rfl
  rw [if_neg k1, if_neg k1]
  by_cases k3 : kd = 3
  · rw [if_pos k3, if_pos k3, hol]
    by_cases h : 50 ≤ r.op.length
    · rw [if_pos h, if_pos h]
    · rw [if_neg h, if_neg h]
      exact congrArg Except.ok (hp ⟨r.row, r.tops, ⟨a, true, []⟩ :: r.op⟩ ⟨3, a, 0, quoteB, []⟩)
  rw [if_neg k3, if_neg k3]
  by_cases k2 : kd = 2
  · rw [if_pos k2, if_pos k2, hq]
    by_cases h : inQ r = true
    · rw [if_pos h, if_pos h]
    · rw [if_neg h, if_neg h]
      by_cases h2 : r.op = []
      · rw [if_pos h2, if_pos (hn.2 h2)]
      · rw [if_neg h2, if_neg (fun h3 => h2 (hn.1 h3))]
        refine congrArg Except.ok ?_
        obtain ⟨ra, rb, rc⟩ := r
        cases rc with
        | nil => exact absurd rfl h2
        | cons p ps => exact (putO_bare ps ra rb ⟨4, p.at_, 0, emp, p.l⟩).symm
  rw [if_neg k2, if_neg k2]
theorem tokens_bare : ∀ (ts : List Tk) (r : Rd), tokens (ts.map bareT) (bareR r) = match tokens ts r with | .error (_, e) => .error (0, e) | .ok r' => .ok (bareR r') := by
  intro ts
  induction ts with
  | nil => intro r; rfl
  | cons t ts ih =>
    intro r
    rw [List.map_cons]
    simp only [tokens, token_bare]
    cases token r t with
    | error e => rfl
    | ok r1 => exact ih r1
/-! ### a text as tokens -/
def Stop (l : List UInt8) : Prop := l = [] ∨ ∃ x b, l = x :: b ∧ let_ x = false
/-- The text D is the tokens U, whatever stops it. -/
def LexTo (D : List UInt8) (U : List Tk) : Prop := ∀ rest, Stop rest → ∀ (p : Nat) (out : List Tk), ∃ T, T.map bareT = U ∧ lexL (D ++ rest) p out = lexL rest (p + D.length) (out ++ T)
theorem LexTo.nil : LexTo [] [] := fun rest _ p out => ⟨[], rfl, by simp⟩
theorem LexTo.app {A B : List UInt8} {U V : List Tk} (hA : LexTo A U) (hB : LexTo B V) (hs : ∀ rest, Stop rest → Stop (B ++ rest)) : LexTo (A ++ B) (U ++ V) := by
  intro rest hr p out
  obtain ⟨T, e1, e2⟩ := hA (B ++ rest) (hs rest hr) p out
  obtain ⟨S, e3, e4⟩ := hB rest hr (p + A.length) (out ++ T)
  refine ⟨T ++ S, by rw [List.map_append, e1, e3], ?_⟩
  rw [List.append_assoc, e2, e4, List.length_append, List.append_assoc, Nat.add_assoc]
theorem LexTo.blank {D : List UInt8} {U : List Tk} (h : LexTo D U) : LexTo (32 :: D) U := by
  intro rest hr p out
  obtain ⟨T, e1, e2⟩ := h rest hr (p + 1) out
  refine ⟨T, e1, ?_⟩
  rw [List.cons_append, lexL_blank, e2, List.length_cons]
  congr 1; omega
theorem LexTo.mark {D : List UInt8} {U : List Tk} (h : LexTo D U) {c : UInt8} (hc : LX.mark c ≠ 0) : LexTo (c :: D) (⟨LX.mark c, 0, 0, emp⟩ :: U) := by
  intro rest hr p out
  obtain ⟨T, e1, e2⟩ := h rest hr (p + 1) (out ++ [⟨LX.mark c, p, 0, emp⟩])
  have h1 : LX.blank c = false ∧ c ≠ 59 := by
    rcases LW.mark_yes hc with rfl | rfl | rfl <;> decide
  refine ⟨⟨LX.mark c, p, 0, emp⟩ :: T, by rw [List.map_cons, e1]; rfl, ?_⟩
  rw [List.cons_append, lexL_step, step_mark h1.1 h1.2 hc]
  simp only [List.drop_succ_cons, List.drop_zero]
  rw [e2, List.length_cons, List.append_assoc]
  congr 1; omega
theorem word_stop {w rest : List UInt8} (hw : w.all let_ = true) (hr : Stop rest) : word (w ++ rest) = w := by
  rcases hr with rfl | ⟨x, b, rfl, hx⟩
  · rw [List.append_nil, word_all hw]
  · rw [word_app _ _ _ hx, word_all hw]
theorem LexTo.word {w : List UInt8} {kd n : Int} {sv : ByteArray} {k : Nat} (ha : w.all let_ = true) (h0 : w ≠ []) (h1 : one w = .tok kd n sv k) : LexTo w [⟨kd, 0, n, sv⟩] := by
  intro rest hr p out
  refine ⟨[⟨kd, p, n, sv⟩], rfl, ?_⟩
  have hw := word_stop ha hr
  cases w with
  | nil => exact absurd rfl h0
  | cons c r =>
    have hc : let_ c = true := by rw [List.all_cons, Bool.and_eq_true] at ha; exact ha.1
    obtain ⟨a1, a2, a3, a4⟩ := let_apart hc
    have hk := one_k h1
    subst hk
    rw [List.cons_append] at hw ⊢
    rw [lexL_step, step_one a1 a2 a3 a4 hc, hw, h1]
    simp only
    rw [← List.cons_append, List.drop_left]
theorem LexTo.bool (c : UInt8) (n : Int) (h : (c = 116 ∧ n = 1) ∨ (c = 102 ∧ n = 0)) : LexTo [35, c] [⟨5, 0, n, emp⟩] := by
  intro rest hr p out
  refine ⟨[⟨5, p, n, emp⟩], rfl, ?_⟩
  show lexL (35 :: c :: rest) p out = _
  rw [lexL_step, step_hash (by decide) (by decide) (by decide) rfl]
  rcases h with ⟨rfl, rfl⟩ | ⟨rfl, rfl⟩
  · have hw : LX.word (116 :: rest) = [116] := word_stop (w := [116]) (by decide) hr
    rw [hw, if_pos rfl]
    rfl
  · have hw : LX.word (102 :: rest) = [102] := word_stop (w := [102]) (by decide) hr
    rw [hw, if_neg (by decide), if_pos rfl]
    rfl
theorem stop_cons {x : UInt8} (h : let_ x = false) (b : List UInt8) : Stop (x :: b) := .inr ⟨x, b, rfl, h⟩
theorem joinB_snoc (ts : List (List UInt8)) (u : List UInt8) (h : ts ≠ []) : joinB (ts ++ [u]) = joinB ts ++ (32 :: u) := by
  cases ts with
  | nil => exact absurd rfl h
  | cons t ts => simp [joinB]
/-! ### a datum's text is read again as it lies -/
def addL (r : Rd) (row : List Nd) (l : List Nat) : Rd := match r.op with
  | [] => ⟨row, r.tops ++ l, []⟩
  | p :: ps => ⟨row, r.tops, ⟨p.at_, p.q, p.l ++ l⟩ :: ps⟩
def Again (ns : List Nd) (k b c : Nat) : Prop := ∃ U, LexTo (dt ns c) U ∧ ∀ r : Rd, r.row = (ns.map bare).take b → k + r.op.length = 50 → tokens U r = .ok (putO r.op ((ns.map bare).take c) r.tops (bare (ndAt ns c)))
theorem take_snoc {ns : List Nd} {c : Nat} (h : c < ns.length) : (ns.map bare).take c ++ [bare (ndAt ns c)] = (ns.map bare).take (c + 1) := by
  rw [List.take_succ_eq_append_getElem (by rw [List.length_map]; exact h), List.getElem_map]
  unfold ndAt
  rw [List.getD_eq_getElem?_getD, List.getElem?_eq_getElem h]; rfl
theorem take_len {ns : List Nd} {c : Nat} (h : c < ns.length) : ((ns.map bare).take c).length = c := by
  rw [List.length_take, List.length_map]; omega
theorem again_row {ns : List Nd} {k : Nat} (hE : ∀ b c, Dat ns k b c → c < ns.length ∧ Again ns k b c) {a b : Nat} {l : List Nat} (h : Ch (Dat ns k) a b l) :
    ∃ U, LexTo (joinB (l.map (dt ns))) U ∧ ∀ r : Rd, r.row = (ns.map bare).take a → (∀ p ps, r.op = p :: ps → p.q = false) → k + r.op.length = 50 → tokens U r = .ok (addL r ((ns.map bare).take b) l) := by
  induction h with
  | nil =>
    refine ⟨[], LexTo.nil, fun r h1 _ _ => ?_⟩
    obtain ⟨x, y, z⟩ := r
    simp only at h1
    subst h1
    cases z <;> simp [tokens, addL]
  | @snoc b c l h1 h2 ih =>
    obtain ⟨hc, V, hV1, hV2⟩ := hE b c h2
    have key : ∀ r : Rd, r.row = (ns.map bare).take a → (∀ p ps, r.op = p :: ps → p.q = false) → k + r.op.length = 50 → tokens V (addL r ((ns.map bare).take b) l) = .ok (addL r ((ns.map bare).take (c + 1)) (l ++ [c])) := by
      intro r _ hq hk
      obtain ⟨x, y, z⟩ := r
      cases z with
      | nil =>
        rw [hV2 _ rfl (by simpa [addL] using hk)]
        simp only [addL, putO, take_snoc hc, take_len hc, List.append_assoc]
      | cons p ps =>
        rw [hV2 _ rfl (by simpa [addL] using hk)]
        have hpq := hq p ps rfl
        simp only [addL, putO, hpq, Bool.false_eq_true, false_and, if_false, take_snoc hc, take_len hc, List.append_assoc]
    by_cases hl : l = []
    · subst hl
      have hab := h1.nil_inv rfl
      subst hab
      refine ⟨V, by simpa [joinB] using hV1, fun r g1 g2 g3 => ?_⟩
      have := key r g1 g2 g3
      have e : addL r ((ns.map bare).take a) [] = r := by
        obtain ⟨x, y, z⟩ := r
        simp only at g1
        subst g1
        cases z <;> simp [addL]
      rw [e] at this
      exact this
    · obtain ⟨U, hU1, hU2⟩ := ih
      refine ⟨U ++ V, ?_, fun r g1 g2 g3 => ?_⟩
      · rw [List.map_append, List.map_singleton, joinB_snoc _ _ (by simpa using hl)]
        exact hU1.app hV1.blank (fun rest _ => stop_cons (by decide) _)
      · rw [tokens_app, hU2 r g1 g2 g3]
        exact key r g1 g2 g3
theorem nd_some {ns : List Nd} {c : Nat} {x : Nd} (h : ns[c]? = some x) : c < ns.length ∧ ndAt ns c = x := by
  refine ⟨(List.getElem?_eq_some_iff.1 h).1, ?_⟩
  unfold ndAt
  rw [List.getD_eq_getElem?_getD, h]; rfl
theorem again_leaf {ns : List Nd} (hok : Ok ns) {k c : Nat} {x : Nd} (h : ns[c]? = some x) (hx : Leaf x) : Again ns k c c := by
  obtain ⟨hc, hn⟩ := nd_some h
  rcases hx with ⟨h1, h2, h3, h4, h5, h6⟩ | ⟨h1, h2, h3, h4⟩ | ⟨h1, h2, h3, h4, h5, h6⟩
  · refine ⟨[⟨4, 0, x.n, emp⟩], ?_, fun r hr _ => ?_⟩
    · rw [dt_int hok hc (by rw [hn]; exact h1), hn]
      exact LexTo.word h4 h5 h6
    · rw [hn, ← hr]
      obtain ⟨a, b, c, d, e⟩ := x
      simp only at h1 h2 h3
      subst h1 h2 h3
      rfl
  · refine ⟨[⟨5, 0, x.n, emp⟩], ?_, fun r hr _ => ?_⟩
    · rw [dt_bool hok hc (by rw [hn]; exact h1), hn]
      rcases h2 with h2 | h2
      · rw [h2]; exact LexTo.bool 102 0 (.inr ⟨rfl, rfl⟩)
      · rw [h2]; exact LexTo.bool 116 1 (.inl ⟨rfl, rfl⟩)
    · rw [hn, ← hr]
      obtain ⟨a, b, c, d, e⟩ := x
      simp only at h1 h3 h4
      subst h1 h3 h4
      rfl
  · refine ⟨[⟨6, 0, 0, x.s⟩], ?_, fun r hr _ => ?_⟩
    · rw [dt_name hok hc (by rw [hn]; exact h1), hn]
      exact LexTo.word h4 h5 h6
    · rw [hn, ← hr]
      obtain ⟨a, b, c, d, e⟩ := x
      simp only at h1 h2 h3
      subst h1 h2 h3
      rfl
theorem again_any {ns : List Nd} (hok : Ok ns) : ∀ k b c, Dat ns k b c → c < ns.length ∧ Again ns k b c := by
  intro k
  induction k with
  | zero =>
    rintro b c ⟨rfl, x, h1, h2⟩
    exact ⟨(nd_some h1).1, again_leaf hok h1 h2⟩
  | succ k ih =>
    rintro b c (⟨rfl, x, h1, h2⟩ | ⟨x, h1, h2, h3, h4, h5⟩)
    · exact ⟨(nd_some h1).1, again_leaf hok h1 h2⟩
    obtain ⟨hc, hn⟩ := nd_some h1
    refine ⟨hc, ?_⟩
    have hbx : bare x = ⟨4, 0, 0, emp, x.l⟩ := by
      obtain ⟨a1, a2, a3, a4, a5⟩ := x
      simp only at h2 h3 h4
      subst h2 h3 h4
      rfl
    by_cases hq : quo ns x = true
    · obtain ⟨q, y, hqy⟩ : ∃ q y, x.l = [q, y] := by
        have := quo_two hq
        match x.l, this with
        | [q, y], _ => exact ⟨q, y, rfl⟩
      rw [hqy] at h5
      obtain ⟨d, g1, g2, g3⟩ := h5.snoc_inv (m := [q]) (c := y) rfl
      obtain ⟨d2, g4, g5, g6⟩ := g1.snoc_inv (m := []) (c := q) rfl
      have g7 := g4.nil_inv rfl
      subst g7 g3 g6
      have hq2 := hq
      unfold quo at hq2
      rw [hqy, Bool.and_eq_true, Bool.and_eq_true] at hq2
      have q1 : (ndAt ns q).kind = 3 := by simpa using hq2.2.1
      have q2 : (ndAt ns q).s = quoteB := by simpa using hq2.2.2
      have hleaf : b = q ∧ ∃ z, ns[q]? = some z ∧ Leaf z := by
        cases k with
        | zero => exact g5
        | succ k =>
          rcases g5 with g5 | ⟨z, k1, k2, _⟩
          · exact g5
          · have := (nd_some k1).2
            rw [this, k2] at q1
            exact absurd q1 (by decide)
      obtain ⟨rfl, z, z1, z2⟩ := hleaf
      obtain ⟨hb, hz⟩ := nd_some z1
      rw [hz] at q1 q2
      have hbz : bare (ndAt ns b) = ⟨3, 0, 0, quoteB, []⟩ := by
        rw [hz]
        rcases z2 with z2 | z2 | z2
        · have := z2.1; rw [q1] at this; exact absurd this (by decide)
        · have := z2.1; rw [q1] at this; exact absurd this (by decide)
        · unfold bare
          rw [q1, q2, z2.2.1, z2.2.2.1]
      obtain ⟨hy, V, hV1, hV2⟩ := ih (b + 1) y g2
      refine ⟨⟨3, 0, 0, emp⟩ :: V, ?_, fun r hr hk => ?_⟩
      · rw [dt_quote hok hc (by rw [hn]; exact hq), hn, hqy]
        exact hV1.mark (c := 39) (by decide)
      · have ht : token r ⟨3, 0, 0, emp⟩ = .ok ⟨(ns.map bare).take (b + 1), r.tops, ⟨0, true, [b]⟩ :: r.op⟩ := by
          unfold token
          simp only
          rw [if_neg (by decide), if_neg (by decide), if_neg (by decide), if_neg (by decide), if_pos trivial, if_neg (by omega)]
          unfold put putO
          simp only [List.length_nil]
          rw [if_neg (by simp), hr, take_len hb, ← take_snoc hb, hbz]
          rfl
        simp only [tokens, ht]
        rw [hV2 _ rfl (by simp only [List.length_cons]; omega)]
        simp only []
        conv => lhs; unfold putO
        rw [if_pos (by simp), hn, hbx, hqy, take_snoc hy, take_len hy]
        rfl
    · have hq : quo ns x = false := by simpa using hq
      obtain ⟨U, hU1, hU2⟩ := again_row ih h5
      refine ⟨⟨1, 0, 0, emp⟩ :: (U ++ [⟨2, 0, 0, emp⟩]), ?_, fun r hr hk => ?_⟩
      · rw [dt_list hok hc (by rw [hn]; exact h2) (by rw [hn]; exact hq), hn]
        have : restL ns x.l 0 = joinB (x.l.map (dt ns)) ++ [41] := by unfold restL; rw [if_pos rfl]
        rw [this]
        exact (hU1.app (LexTo.nil.mark (c := 41) (by decide)) (fun rest _ => stop_cons (by decide) _)).mark (c := 40) (by decide)
      · have ht : token r ⟨1, 0, 0, emp⟩ = .ok ⟨r.row, r.tops, ⟨0, false, []⟩ :: r.op⟩ := by
          unfold token
          simp only
          rw [if_neg (by decide), if_neg (by decide), if_neg (by decide), if_pos trivial, if_neg (by omega)]
        simp only [tokens, ht]
        rw [tokens_app, hU2 ⟨r.row, r.tops, ⟨0, false, []⟩ :: r.op⟩ hr (fun p ps e => by injection e with e; subst e; rfl) (by simp only [List.length_cons]; omega)]
        simp only [tokens]
        have ht2 : token (addL ⟨r.row, r.tops, ⟨0, false, []⟩ :: r.op⟩ ((ns.map bare).take c) x.l) ⟨2, 0, 0, emp⟩ = .ok (putO r.op ((ns.map bare).take c) r.tops ⟨4, 0, 0, emp, x.l⟩) := by
          have e : ∀ R : Rd, token R ⟨2, 0, 0, emp⟩ = if inQ R = true then .error 63 else if R.op = [] then .error 61 else .ok (close R) := fun R => rfl
          rw [e, if_neg (by simp [addL, inQ]), if_neg (by simp [addL])]
          rfl
        rw [ht2, hn, hbx]
/-- What is read of a text that a row of data has, all but where they stand. -/
theorem fin_back {T : List Tk} {row : List Nd} {tops : List Nat} (h : tokens (T.map bareT) ⟨[], [], []⟩ = .ok ⟨row, tops, []⟩) : ∃ r2, fin (tokens T ⟨[], [], []⟩) = .ok r2 ∧ r2.row.map bare = row ∧ r2.tops = tops := by
  have hb := tokens_bare T ⟨[], [], []⟩
  have e0 : bareR ⟨[], [], []⟩ = ⟨[], [], []⟩ := rfl
  rw [e0, h] at hb
  cases hT : tokens T ⟨[], [], []⟩ with
  | error e => rw [hT] at hb; cases hb
  | ok r2 =>
    rw [hT] at hb
    injection hb with hb
    obtain ⟨x, y, z⟩ := r2
    simp only [bareR, Rd.mk.injEq] at hb
    obtain ⟨h1, h2, h3⟩ := hb
    have hz : z = [] := by cases z with | nil => rfl | cons _ _ => simp at h3
    subst hz
    refine ⟨⟨x, y, []⟩, ?_, h1.symm, h2.symm⟩
    unfold fin endE
    rfl
def backL (ns : List Nd) (tops : List Nat) : List UInt8 := tops.flatMap fun i => dt ns i ++ [32]
theorem backL_join (ns : List Nd) (tops : List Nat) : backL ns tops = if tops = [] then [] else joinB (tops.map (dt ns)) ++ [32] := by
  cases tops with
  | nil => rfl
  | cons t ts =>
    rw [if_neg (by simp)]
    have : ∀ us : List Nat, (us.flatMap fun i => dt ns i ++ [32]) = (us.flatMap fun i => (dt ns i ++ [32] : List UInt8)) := fun _ => rfl
    have key : ∀ (us : List Nat), (32 : UInt8) :: (us.flatMap fun i => dt ns i ++ [32]) = (us.flatMap fun i => 32 :: dt ns i) ++ [32] := by
      intro us
      induction us with
      | nil => rfl
      | cons u us ih =>
        rw [List.flatMap_cons, List.flatMap_cons]
        simp only [List.append_assoc, List.cons_append, List.nil_append, ih]
    unfold backL
    rw [List.flatMap_cons, List.map_cons]
    unfold joinB
    rw [List.append_assoc, List.append_assoc, List.flatMap_map]
    congr 1
    exact key ts
theorem lex_to {D : List UInt8} {U : List Tk} (h : LexTo D U) (hl : D.length ≤ 4000) : ∃ T, lex (str D) = .ok T ∧ T.map bareT = U := by
  obtain ⟨T, e1, e2⟩ := h [] (.inl rfl) 0 []
  refine ⟨T, ?_, e1⟩
  rw [lex_small (by rw [str_size]; exact hl), bts_str]
  rw [List.append_nil] at e2
  rw [e2, lexL_nil]; rfl
theorem read_ok_data {s : ByteArray} {r : Rd} (h : read s = .ok r) : Ok r.row := by
  have hI := (read_inv (P := fun x => -9223372036854775808 ≤ x.n ∧ x.n ≤ 9223372036854775807) (Q := fun _ => True) (fun _ _ _ _ h => h) (fun _ _ _ => ⟨by show (-9223372036854775808 : Int) ≤ 0; omega, by show (0 : Int) ≤ 9223372036854775807; omega⟩) h
    (fun _ hl => brings _ _ hl (fun t hi _ _ => ⟨by have := hi.good.lo; show _ ≤ t.n; omega, by have := hi.good.hi; show t.n ≤ _; omega⟩) (fun t hi _ => ⟨by have := hi.good.lo; show _ ≤ t.n; omega, by have := hi.good.hi; show t.n ≤ _; omega⟩) (fun _ _ _ => ⟨by show (-9223372036854775808 : Int) ≤ 0; omega, by show (0 : Int) ≤ 9223372036854775807; omega⟩) (fun _ _ _ _ _ => trivial) (fun _ _ _ => ⟨fun _ _ => trivial, by show (-9223372036854775808 : Int) ≤ 0; omega, by show (0 : Int) ≤ 9223372036854775807; omega⟩))).1
  have hsz := read_sizes h
  have hat : ∀ i (hi : i < r.row.length), ndAt r.row i = r.row[i] := fun i hi => by
    unfold ndAt
    rw [List.getD_eq_getElem?_getD, List.getElem?_eq_getElem hi]; rfl
  refine ⟨fun x hx => ?_, fun x hx hk => ?_, fun i hi p hp => ?_, fun i hi => ?_, fun i hi => ?_⟩
  · rcases (hI.good x hx).1.2 with h | h | h | h
    · exact .inl h.1
    · exact .inr (.inl h.1)
    · exact .inr (.inr (.inl h.1))
    · exact .inr (.inr (.inr h.1))
  · rcases (hI.good x hx).1.2 with h | h | h | h
    · exact h.2.2
    · exact h.2.2.2
    · exact h.2.2
    · exact absurd h.1 hk
  · rw [hat i hi] at hp
    exact hI.below i hi p hp
  · rw [hat i hi]
    have := hsz.2.2 _ (List.getElem_mem hi)
    omega
  · rw [hat i hi]
    exact (hI.good _ (List.getElem_mem hi)).2
/-- Data that were read, shown, and read again. -/
theorem back_any {s : ByteArray} {r : Rd} (h : read s = .ok r) (hl : (backL r.row r.tops).length ≤ 4000) : ∃ r2, read (str (backL r.row r.tops)) = .ok r2 ∧ r2.row.map bare = r.row.map bare ∧ r2.tops = r.tops := by
  have hok := read_ok_data h
  obtain ⟨U, hU1, hU2⟩ := again_row (again_any hok 50) (read_dat h)
  have hLT : LexTo (backL r.row r.tops) U := by
    rw [backL_join]
    split
    · rename_i e
      rw [e] at hU1
      exact hU1
    · have := hU1.app (LexTo.nil.blank) (fun rest _ => stop_cons (by decide) _)
      rw [List.append_nil] at this
      exact this
  obtain ⟨T, e1, e2⟩ := lex_to hLT hl
  have ht := hU2 ⟨[], [], []⟩ (by simp) (by simp) (by simp)
  rw [← e2] at ht
  have hall : (r.row.map bare).take r.row.length = r.row.map bare := List.take_of_length_le (by simp)
  simp only [addL, hall, List.nil_append] at ht
  obtain ⟨r2, g1, g2, g3⟩ := fin_back ht
  exact ⟨r2, by rw [read_fin e1]; exact g1, g2, g3⟩
/-- One datum's text, read. -/
theorem back_one {ns : List Nd} (hok : Ok ns) {c : Nat} (hd : Dat ns 50 0 c) (hc : ns.length = c + 1) (hl : (dt ns c).length ≤ 4000) : ∃ r2, read (str (dt ns c)) = .ok r2 ∧ r2.row.map bare = ns.map bare ∧ r2.tops = [c] := by
  obtain ⟨hlt, U, hU1, hU2⟩ := again_any hok 50 0 c hd
  obtain ⟨T, e1, e2⟩ := lex_to hU1 hl
  have ht := hU2 ⟨[], [], []⟩ (by simp) (by simp)
  rw [← e2] at ht
  have hall : (ns.map bare).take (c + 1) = ns.map bare := List.take_of_length_le (by simp; omega)
  simp only [putO, take_snoc hlt, take_len hlt, hall, List.nil_append] at ht
  obtain ⟨r2, g1, g2, g3⟩ := fin_back ht
  exact ⟨r2, by rw [read_fin e1]; exact g1, g2, g3⟩
end SX
end Go.Proofs.YtaghlpolljaedaaGreat
