/-
  What is read, in parts: tokens, then data; how much it is. No condition.
-/
import Derived.Test.YtbglcdjimipeeaaDoorReadInv
import Derived.Test.YtbglcdjimipeeaaDoorReadTop
import Derived.Test.YtbglcdjimipeeaaDoorLexGood
namespace Go.Proofs.YtbglcdjimipeeaaDoor
namespace RX
open LX
theorem lex_kinds {s : ByteArray} {ts : List Tk} (h : lex s = .ok ts) : ∀ t ∈ ts, t.kind = 1 ∨ t.kind = 2 ∨ t.kind = 3 ∨ t.kind = 4 ∨ t.kind = 5 ∨ t.kind = 6 := fun t ht => ((lex_in_s h).1 t ht).good.kind
theorem read_fin {s : ByteArray} {ts : List Tk} (h : lex s = .ok ts) : read s = fin (tokens ts ⟨[], [], []⟩) := by
  unfold read
  rw [h]
  exact readT_fin (lex_kinds h)
theorem fin_ok {X : Except (Int × Int) Rd} {r : Rd} (h : fin X = .ok r) : X = .ok r ∧ r.op = [] := by
  cases X with
  | error e => cases h
  | ok R =>
    have e := end_ok h
    subst e
    refine ⟨rfl, ?_⟩
    unfold fin endE at h
    simp only at h
    split at h
    · assumption
    · split at h <;> cases h
theorem read_ok {s : ByteArray} {r : Rd} (h : read s = .ok r) : ∃ ts, lex s = .ok ts ∧ tokens ts ⟨[], [], []⟩ = .ok r ∧ r.op = [] := by
  cases hL : lex s with
  | error e =>
    unfold read at h
    rw [hL] at h
    obtain ⟨p, z⟩ := e
    cases h
  | ok ts =>
    rw [read_fin hL] at h
    obtain ⟨h1, h2⟩ := fin_ok h
    exact ⟨ts, rfl, h1, h2⟩
theorem len_count : ∀ (n : Nat) (l : List Nat), (∀ a ∈ l, a < n) → (∀ a, l.count a ≤ 1) → l.length ≤ n := by
  intro n
  induction n with
  | zero =>
    intro l h _
    cases l with
    | nil => simp
    | cons a l => exact absurd (h a (List.mem_cons_self ..)) (by omega)
  | succ n ih =>
    intro l h h1
    have e := List.length_eq_countP_add_countP (fun a => a == n) (l := l)
    have e2 : l.countP (fun a => a == n) ≤ 1 := h1 n
    have e3 : (l.filter (fun a => ¬ (a == n) = true)).length ≤ n := by
      refine ih _ (fun a ha => ?_) (fun a => Nat.le_trans (List.Sublist.count_le a List.filter_sublist) (h1 a))
      obtain ⟨h2, h3⟩ := List.mem_filter.1 ha
      have := h a h2
      simp at h3
      omega
    rw [← List.countP_eq_length_filter] at e3
    have e4 : l.countP (fun a => decide (¬ (a == n) = true)) = l.countP (fun a => decide ¬(a == n) = true) := rfl
    omega
theorem flat_count {row : List Nd} {x : Nd} (hx : x ∈ row) (a : Nat) : x.l.count a ≤ (row.flatMap (·.l)).count a := by
  induction row with
  | nil => cases hx
  | cons y row ih =>
    rw [List.flatMap_cons, List.count_append]
    rcases List.mem_cons.1 hx with rfl | hx
    · omega
    · have := ih hx; omega
theorem Inv.len {P : Nd → Prop} {Q : Pt → Prop} {row : List Nd} {tops : List Nat} {ps : List Pt} {l : List Nat} (h : Inv P Q row tops ps l) : tops.length ≤ row.length ∧ ∀ x ∈ row, x.l.length ≤ row.length := by
  refine ⟨len_count _ _ (fun a ha => h.lt (.inl ha)) (fun a => ?_), fun x hx => len_count _ _ (fun a ha => ?_) (fun a => ?_)⟩
  · have := h.one a
    unfold cnt at this
    split at this <;> omega
  · have h1 := h.one a
    have h2 := flat_count hx a
    have h3 := List.count_pos_iff.2 ha
    unfold cnt at h1
    split at h1
    · assumption
    · omega
  · have h1 := h.one a
    have h2 := flat_count hx a
    unfold cnt at h1
    split at h1 <;> omega
theorem tokens_bd : ∀ (ts : List Tk) {r r' : Rd} {n : Nat}, Bd r n → tokens ts r = .ok r' → Bd r' (n + 2 * ts.length) := by
  intro ts
  induction ts with
  | nil => intro r r' n h e; simp [tokens] at e; subst e; exact h.mono (by simp)
  | cons t ts ih =>
    intro r r' n h e
    simp only [tokens] at e
    cases hT : token r t with
    | error z => rw [hT] at e; cases e
    | ok r1 =>
      rw [hT] at e
      exact (ih (token_bd h hT) e).mono (by simp; omega)
theorem inv_start (P : Nd → Prop) (Q : Pt → Prop) : Inv P Q [] [] [] [] := ⟨fun a => by simp [cnt], fun k h => by simp at h, by simp, by simp, by simp⟩
/-- What is read: valid; each place once; in order. -/
theorem read_inv {s : ByteArray} {r : Rd} {P : Nd → Prop} {Q : Pt → Prop} (hQ : ∀ a b l l', Q ⟨a, b, l⟩ → Q ⟨a, b, l'⟩) (hPQ : ∀ p : Pt, Q p → ∀ l, P ⟨4, p.at_, 0, emp, l⟩) (h : read s = .ok r)
    (hb : ∀ ts, lex s = .ok ts → ∀ t ∈ ts, Brings P Q t) : Inv P Q r.row r.tops [] [] ∧ (r.row = [] ∨ r.tops.getLast? = some (r.row.length - 1)) := by
  obtain ⟨ts, h1, h2, h3⟩ := read_ok h
  obtain ⟨h4, h5⟩ := tokens_inv hQ hPQ ts (r := ⟨[], [], []⟩) (inv_start P Q) (fun _ => .inl rfl) (hb ts h1) h2
  rw [h3] at h4
  exact ⟨h4, h5 h3⟩
theorem lexL_all (s : ByteArray) (T : Tk → Prop) (hT : ∀ (i : Nat) (h : i < s.size) kd n sv k, LX.step (s[i] :: (bts s).drop (i + 1)) = .tok kd n sv k → T ⟨kd, i, n, sv⟩) : ∀ (f i : Nat) (out ts : List Tk), s.size - i ≤ f → i ≤ s.size → (∀ t ∈ out, T t) →
    lexL ((bts s).drop i) i out = .ok ts → ∀ t ∈ ts, T t := by
  intro f
  induction f with
  | zero =>
    intro i out ts hf hi ho h
    rw [List.drop_eq_nil_of_le (by rw [size_bts]; omega), lexL_nil] at h
    injection h with h
    subst h
    exact ho
  | succ f ih =>
    intro i out ts hf hi ho h
    by_cases hlt : i < s.size
    · have hR := h
      cases hst : LX.step (s[i] :: (bts s).drop (i + 1)) with
      | err e =>
        have := LW.lex_err hlt hR hst
        cases this
      | skip k =>
        have h2 := LW.lex_skip hlt hR hst
        have hk : 0 < k ∧ i + k ≤ s.size := by
          refine ⟨?_, ?_⟩
          · rcases step_adv s[i] ((bts s).drop (i + 1)) with ⟨e, he⟩ | ⟨h1, _⟩
            · rw [hst] at he; cases he
            · rw [hst] at h1; exact h1
          · rcases LW.lex_fits hlt with ⟨e, he⟩ | h1
            · rw [hst] at he; cases he
            · rw [hst] at h1; exact h1
        exact ih (i + k) out ts (by omega) hk.2 ho h2
      | tok kd n sv k =>
        have h2 := LW.lex_tok hlt hR hst
        have hk : 0 < k ∧ i + k ≤ s.size := by
          refine ⟨LW.step_pos hst, ?_⟩
          rcases LW.lex_fits hlt with ⟨e, he⟩ | h1
          · rw [hst] at he; cases he
          · rw [hst] at h1; exact h1
        refine ih (i + k) _ ts (by omega) hk.2 (fun t ht => ?_) h2
        rcases List.mem_append.1 ht with ht | ht
        · exact ho t ht
        · have : t = ⟨kd, i, n, sv⟩ := by simpa using ht
          subst this
          exact hT i hlt kd n sv k hst
    · rw [List.drop_eq_nil_of_le (by rw [size_bts]; omega), lexL_nil] at h
      injection h with h
      subst h
      exact ho
theorem lex_all {s : ByteArray} {ts : List Tk} (T : Tk → Prop) (hT : ∀ (i : Nat) (h : i < s.size) kd n sv k, LX.step (s[i] :: (bts s).drop (i + 1)) = .tok kd n sv k → T ⟨kd, i, n, sv⟩) (h : lex s = .ok ts) : ∀ t ∈ ts, T t := by
  have h2 := (lex_len h).2
  rw [lex_small h2] at h
  exact lexL_all s T hT s.size 0 [] ts (by omega) (by omega) (by simp) h
/-- What a step tells besides. -/
theorem step_more {c : UInt8} {r : List UInt8} {kd n : Int} {sv : ByteArray} {k : Nat} (h : LX.step (c :: r) = .tok kd n sv k) : (kd = 5 → n = 0 ∨ n = 1) ∧ (kd = 4 → c = 45 ∨ dig c = true) := by
  unfold LX.step at h
  simp only at h
  split at h
  · cases h
  split at h
  · cases h
  split at h
  · injection h with e1 e2 e3 e4
    subst e1
    have : LX.mark c ≤ 3 := by unfold LX.mark; split <;> (try split) <;> (try split) <;> omega
    exact ⟨fun e => by omega, fun e => by omega⟩
  split at h
  · split at h
    · injection h with e1 e2 e3 e4; exact ⟨fun _ => .inr e2.symm, fun e => by omega⟩
    · split at h
      · injection h with e1 e2 e3 e4; exact ⟨fun _ => .inl e2.symm, fun e => by omega⟩
      · cases h
  split at h
  · cases h
  · rename_i h5
    unfold one at h
    split at h
    · split at h
      · cases h
      · injection h with e1 e2 e3 e4; exact ⟨fun e => by omega, fun e => by omega⟩
    · rename_i hn
      split at h
      · cases h
      · split at h
        · cases h
        · injection h with e1 e2 e3 e4
          refine ⟨fun e => by omega, fun _ => ?_⟩
          have hlet : let_ c = true := by simpa using h5
          have hw : word (c :: r) = c :: word r := by unfold word; rw [List.takeWhile_cons, if_pos hlet]
          rw [hw] at hn
          have hn2 : number (c :: word r) = true := by simpa using hn
          unfold number unsign at hn2
          by_cases h45 : c = 45
          · exact .inl h45
          · right
            simp only [if_neg h45] at hn2
            simp at hn2
            exact hn2.1
/-- What every token of a text brings, by where it stands. -/
theorem brings {s : ByteArray} {ts : List Tk} (P : Nd → Prop) (Q : Pt → Prop) (h : lex s = .ok ts)
    (h4 : ∀ t, InT s t → t.kind = 4 → (∃ hh : t.at_.toNat < s.size, s[t.at_.toNat] = 45 ∨ dig s[t.at_.toNat] = true) → P ⟨1, t.at_, t.n, emp, []⟩)
    (h5 : ∀ t, InT s t → t.kind = 5 → P ⟨2, t.at_, t.n, emp, []⟩) (h6 : ∀ t, InT s t → t.kind = 6 → P ⟨3, t.at_, 0, t.s, []⟩)
    (h1 : ∀ t, InT s t → t.kind = 1 → ∀ b l, Q ⟨t.at_, b, l⟩) (h3 : ∀ t, InT s t → t.kind = 3 → (∀ b l, Q ⟨t.at_, b, l⟩) ∧ P ⟨3, t.at_, 0, quoteB, []⟩) : ∀ t ∈ ts, Brings P Q t := by
  intro t ht
  have hin := (lex_in_s h).1 t ht
  have hm := lex_all (fun t => (t.kind = 5 → t.n = 0 ∨ t.n = 1) ∧ (t.kind = 4 → ∃ hh : t.at_.toNat < s.size, s[t.at_.toNat] = 45 ∨ dig s[t.at_.toNat] = true)) (fun i hi kd n sv k hst => by
    obtain ⟨g1, g2⟩ := step_more hst
    exact ⟨g1, fun e => ⟨by simpa using hi, by simpa using g2 e⟩⟩) h t ht
  exact ⟨hin.pos, fun e => h4 t hin e (hm.2 e), fun e => ⟨hm.1 e, h5 t hin e⟩, h6 t hin, h1 t hin, h3 t hin⟩
theorem read_plain {s : ByteArray} {r : Rd} (h : read s = .ok r) : Inv (fun x => x.at_ < s.size) (fun p => p.at_ < s.size) r.row r.tops [] [] ∧ (r.row = [] ∨ r.tops.getLast? = some (r.row.length - 1)) :=
  read_inv (fun _ _ _ _ h => h) (fun _ h _ => h) h (fun _ hl => brings _ _ hl (fun _ hi _ _ => hi.lt) (fun _ hi _ => hi.lt) (fun _ hi _ => hi.lt) (fun _ hi _ _ _ => hi.lt) (fun _ hi _ => ⟨fun _ _ => hi.lt, hi.lt⟩))
theorem read_sizes {s : ByteArray} {r : Rd} (h : read s = .ok r) : r.row.length ≤ 8000 ∧ r.tops.length ≤ 8000 ∧ ∀ x ∈ r.row, x.l.length ≤ 8000 := by
  obtain ⟨ts, h1, h2, _⟩ := read_ok h
  have hl := lex_len h1
  have := tokens_bd ts (r := ⟨[], [], []⟩) (n := 0) ⟨by simp, by simp, by simp⟩ h2
  have h4 := this.sum
  have h5 := this.tops
  have h6 := (read_plain h).1.len.2
  exact ⟨by omega, by omega, fun x hx => by have := h6 x hx; omega⟩
end RX
end Go.Proofs.YtbglcdjimipeeaaDoor
