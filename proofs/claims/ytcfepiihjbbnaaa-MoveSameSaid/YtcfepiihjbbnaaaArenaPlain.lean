/-
  Plain lists behind layer 2: an arena as a row of things (kind, words), its two rows of cells, and what is found at a place. No condition.
-/
import Derived.Test.YtcfepiihjbbnaaaWordPlain
namespace Go.Proofs.Ytcfepiihjbbnaaa
namespace AP
open Go.RowKit
structure Th where
  k : Int
  l : List Int
def sz : List Th → Nat
  | [] => 0
  | t :: ts => t.l.length + 1 + sz ts
def fw : List Th → List Int
  | [] => []
  | t :: ts => (t.l.length : Int) :: (t.l ++ fw ts)
def fk : List Th → List Int
  | [] => []
  | t :: ts => t.k :: (List.replicate t.l.length 0 ++ fk ts)
def idx : List Th → Nat → Option Nat
  | [], _ => none
  | t :: ts, a => if a = 0 then some 0 else if a < t.l.length + 1 then none else (idx ts (a - (t.l.length + 1))).map (· + 1)
def words (n : Nat) (ts : List Th) : List Int := fw ts ++ List.replicate (n - sz ts) 0
def kinds (n : Nat) (ts : List Th) : List Int := fk ts ++ List.replicate (n - sz ts) 0
def th (ts : List Th) (i : Nat) : Th := ts.getD i ⟨0, []⟩
def put (ts : List Th) (i j : Nat) (x : Int) : List Th := ts.modify i fun t => ⟨t.k, t.l.set j x⟩

theorem len_fw (ts : List Th) : (fw ts).length = sz ts := by
  induction ts with
  | nil => rfl
  | cons t ts ih => simp [fw, sz, ih]; omega
theorem len_fk (ts : List Th) : (fk ts).length = sz ts := by
  induction ts with
  | nil => rfl
  | cons t ts ih => simp [fk, sz, ih]; omega
theorem len_words (n : Nat) (ts : List Th) (h : sz ts ≤ n) : (words n ts).length = n := by simp [words, len_fw]; omega
theorem len_kinds (n : Nat) (ts : List Th) (h : sz ts ≤ n) : (kinds n ts).length = n := by simp [kinds, len_fk]; omega
theorem sz_append (ts us : List Th) : sz (ts ++ us) = sz ts + sz us := by
  induction ts with
  | nil => simp [sz]
  | cons t ts ih => simp [sz, ih]; omega
theorem fw_append (ts us : List Th) : fw (ts ++ us) = fw ts ++ fw us := by
  induction ts with
  | nil => rfl
  | cons t ts ih => simp [fw, ih]
theorem fk_append (ts us : List Th) : fk (ts ++ us) = fk ts ++ fk us := by
  induction ts with
  | nil => rfl
  | cons t ts ih => simp [fk, ih]
theorem th_cons (t : Th) (ts : List Th) (i : Nat) : th (t :: ts) (i + 1) = th ts i := by simp [th]
theorem th_zero (t : Th) (ts : List Th) : th (t :: ts) 0 = t := by simp [th]
theorem idx_some {ts : List Th} {a i : Nat} (h : idx ts a = some i) : i < ts.length ∧ a = sz (ts.take i) ∧ a + (th ts i).l.length + 1 ≤ sz ts := by
  induction ts generalizing a i with
  | nil => simp [idx] at h
  | cons t ts ih =>
    unfold idx at h
    split at h
    · rename_i ha
      obtain rfl : 0 = i := by simpa using h
      subst ha
      simp [sz, th_zero]
    · split at h
      · cases h
      · rename_i h0 h1
        obtain ⟨j, hj, rfl⟩ := Option.map_eq_some_iff.1 h
        obtain ⟨e1, e2, e3⟩ := ih hj
        refine ⟨by simp; omega, ?_, ?_⟩
        · simp [sz]; omega
        · rw [th_cons]; simp only [sz]; omega
theorem idx_lt {ts : List Th} {a i : Nat} (h : idx ts a = some i) : a < sz ts := by have := (idx_some h).2.2; omega
theorem idx_off (ts : List Th) (i : Nat) (h : i < ts.length) : idx ts (sz (ts.take i)) = some i := by
  induction ts generalizing i with
  | nil => simp at h
  | cons t ts ih =>
    cases i with
    | zero => simp [sz, idx]
    | succ i =>
      simp only [List.take_succ_cons, sz]
      unfold idx
      rw [if_neg (by omega), if_neg (by omega)]
      rw [show t.l.length + 1 + sz (ts.take i) - (t.l.length + 1) = sz (ts.take i) from by omega, ih i (by simpa using h)]
      rfl
def kindAt (ts : List Th) (a : Nat) : Int := match idx ts a with | some i => (th ts i).k | none => 0
theorem fk_at (ts : List Th) (a : Nat) (h : a < sz ts) : (fk ts)[a]? = some (kindAt ts a) := by
  induction ts generalizing a with
  | nil => simp [sz] at h
  | cons t ts ih =>
    by_cases h0 : a = 0
    · subst h0; simp [kindAt, idx, fk, th_zero]
    · unfold kindAt idx
      rw [if_neg h0]
      obtain ⟨b, rfl⟩ : ∃ b, a = b + 1 := ⟨a - 1, by omega⟩
      by_cases h1 : b + 1 < t.l.length + 1
      · rw [if_pos h1]
        simp only [fk, List.getElem?_cons_succ]
        rw [List.getElem?_append_left (by simp only [List.length_replicate]; omega), List.getElem?_replicate, if_pos (by omega)]
      · rw [if_neg h1]
        simp only [fk, List.getElem?_cons_succ]
        rw [List.getElem?_append_right (by simp only [List.length_replicate]; omega)]
        simp only [List.length_replicate]
        simp only [sz] at h
        rw [show b + 1 - (t.l.length + 1) = b - t.l.length from by omega, ih _ (by omega)]
        unfold kindAt
        cases idx ts (b - t.l.length) with
        | none => rfl
        | some i => simp [th_cons]
theorem fw_len {ts : List Th} {a i : Nat} (h : idx ts a = some i) : (fw ts)[a]? = some ((th ts i).l.length : Int) ∧ ∀ j, j < (th ts i).l.length → (fw ts)[a + 1 + j]? = (th ts i).l[j]? := by
  induction ts generalizing a i with
  | nil => simp [idx] at h
  | cons t ts ih =>
    unfold idx at h
    split at h
    · rename_i ha
      obtain rfl : 0 = i := by simpa using h
      subst ha
      rw [th_zero]
      refine ⟨by simp [fw], fun j hj => ?_⟩
      rw [show 0 + 1 + j = j + 1 from by omega]
      simp only [fw, List.getElem?_cons_succ]
      rw [List.getElem?_append_left hj]
    · split at h
      · cases h
      · rename_i h0 h1
        obtain ⟨i', hj, rfl⟩ := Option.map_eq_some_iff.1 h
        obtain ⟨e1, e2⟩ := ih hj
        rw [th_cons]
        obtain ⟨b, rfl⟩ : ∃ b, a = t.l.length + 1 + b := ⟨a - (t.l.length + 1), by omega⟩
        rw [show t.l.length + 1 + b - (t.l.length + 1) = b from by omega] at e1 e2
        have cut : ∀ q, (fw (t :: ts))[t.l.length + 1 + q]? = (fw ts)[q]? := by
          intro q
          rw [show t.l.length + 1 + q = (t.l.length + q) + 1 from by omega]
          simp only [fw, List.getElem?_cons_succ]
          rw [List.getElem?_append_right (by omega), show t.l.length + q - t.l.length = q from by omega]
        refine ⟨by rw [cut]; exact e1, fun j hj => ?_⟩
        rw [show t.l.length + 1 + b + 1 + j = t.l.length + 1 + (b + 1 + j) from by omega, cut]
        exact e2 j hj
theorem words_at {n : Nat} {ts : List Th} {a i : Nat} (h : idx ts a = some i) : (words n ts)[a]? = some ((th ts i).l.length : Int) ∧ ∀ j, j < (th ts i).l.length → (words n ts)[a + 1 + j]? = (th ts i).l[j]? := by
  have h0 := idx_some h
  obtain ⟨e1, e2⟩ := fw_len h
  unfold words
  refine ⟨by rw [List.getElem?_append_left (by rw [len_fw]; omega)]; exact e1, fun j hj => ?_⟩
  rw [List.getElem?_append_left (by rw [len_fw]; omega)]
  exact e2 j hj
theorem kinds_at (n : Nat) (ts : List Th) (a : Nat) (h : a < sz ts) : (kinds n ts)[a]? = some (kindAt ts a) := by
  unfold kinds
  rw [List.getElem?_append_left (by rw [len_fk]; omega)]
  exact fk_at ts a h
/-! ### setting a word -/
theorem put_cons_zero (t : Th) (ts : List Th) (j : Nat) (x : Int) : put (t :: ts) 0 j x = ⟨t.k, t.l.set j x⟩ :: ts := by simp [put]
theorem put_cons_succ (t : Th) (ts : List Th) (i j : Nat) (x : Int) : put (t :: ts) (i + 1) j x = t :: put ts i j x := by simp [put]
theorem sz_put (ts : List Th) (i j : Nat) (x : Int) : sz (put ts i j x) = sz ts := by
  induction ts generalizing i with
  | nil => simp [put]
  | cons t ts ih =>
    cases i with
    | zero => rw [put_cons_zero]; simp [sz]
    | succ i => rw [put_cons_succ]; simp [sz, ih]
theorem fk_put (ts : List Th) (i j : Nat) (x : Int) : fk (put ts i j x) = fk ts := by
  induction ts generalizing i with
  | nil => simp [put]
  | cons t ts ih =>
    cases i with
    | zero => rw [put_cons_zero]; simp [fk]
    | succ i => rw [put_cons_succ]; simp [fk, ih]
theorem idx_put (ts : List Th) (i j : Nat) (x : Int) (a : Nat) : idx (put ts i j x) a = idx ts a := by
  induction ts generalizing i a with
  | nil => simp [put]
  | cons t ts ih =>
    cases i with
    | zero => rw [put_cons_zero]; simp [idx]
    | succ i => rw [put_cons_succ]; simp [idx, ih]
theorem len_put (ts : List Th) (i j : Nat) (x : Int) : (put ts i j x).length = ts.length := by simp [put]
theorem fw_put {ts : List Th} {a i : Nat} (h : idx ts a = some i) (j : Nat) (x : Int) (hj : j < (th ts i).l.length) : fw (put ts i j x) = (fw ts).set (a + 1 + j) x := by
  induction ts generalizing a i with
  | nil => simp [idx] at h
  | cons t ts ih =>
    unfold idx at h
    split at h
    · rename_i ha
      obtain rfl : 0 = i := by simpa using h
      subst ha
      rw [th_zero] at hj
      rw [put_cons_zero]
      simp only [fw, List.length_set]
      rw [show 0 + 1 + j = j + 1 from by omega, List.set_cons_succ, List.set_append_left _ _ hj]
    · split at h
      · cases h
      · rename_i h0 h1
        obtain ⟨i', hi, rfl⟩ := Option.map_eq_some_iff.1 h
        rw [th_cons] at hj
        rw [put_cons_succ]
        simp only [fw]
        rw [ih hi hj]
        obtain ⟨b, rfl⟩ : ∃ b, a = t.l.length + 1 + b := ⟨a - (t.l.length + 1), by omega⟩
        rw [show t.l.length + 1 + b - (t.l.length + 1) = b from by omega, show t.l.length + 1 + b + 1 + j = (t.l.length + (b + 1 + j)) + 1 from by omega, List.set_cons_succ, List.set_append_right _ _ (by omega)]
        rw [show t.l.length + (b + 1 + j) - t.l.length = b + 1 + j from by omega]
theorem words_put {n : Nat} {ts : List Th} {a i : Nat} (h : idx ts a = some i) (j : Nat) (x : Int) (hj : j < (th ts i).l.length) : words n (put ts i j x) = (words n ts).set (a + 1 + j) x := by
  have h0 := idx_some h
  unfold words
  rw [fw_put h j x hj, sz_put, List.set_append_left _ _ (by rw [len_fw]; omega)]
theorem kinds_put (n : Nat) (ts : List Th) (i j : Nat) (x : Int) : kinds n (put ts i j x) = kinds n ts := by simp [kinds, fk_put, sz_put]
theorem th_put_same (ts : List Th) (i j : Nat) (x : Int) (h : i < ts.length) : th (put ts i j x) i = ⟨(th ts i).k, (th ts i).l.set j x⟩ := by
  simp [th, put, List.getD, h]
theorem th_put_other (ts : List Th) (i i' j : Nat) (x : Int) (h : i' ≠ i) : th (put ts i j x) i' = th ts i' := by
  have h' : ¬ i = i' := fun e => h e.symm
  simp [th, put, List.getD, h']
/-! ### a new thing -/
theorem idx_append (ts : List Th) (t : Th) (a : Nat) : idx (ts ++ [t]) a = if a = sz ts then some ts.length else idx ts a := by
  induction ts generalizing a with
  | nil =>
    by_cases h0 : a = 0
    · simp [idx, sz, h0]
    · simp [idx, sz, h0]
  | cons u ts ih =>
    have e : sz (u :: ts) = u.l.length + 1 + sz ts := rfl
    by_cases h0 : a = 0
    · subst h0
      rw [if_neg (by omega)]
      simp [idx]
    · by_cases h1 : a < u.l.length + 1
      · rw [if_neg (by omega)]
        simp [idx, h0, h1]
      · have e2 : ∀ vs : List Th, idx (u :: vs) a = (idx vs (a - (u.l.length + 1))).map (· + 1) := by
          intro vs; rw [idx, if_neg h0, if_neg h1]
        rw [List.cons_append, e2, e2, ih]
        by_cases h2 : a = sz (u :: ts)
        · rw [if_pos h2, if_pos (by omega)]; rfl
        · rw [if_neg h2, if_neg (by omega)]
theorem th_append_old (ts : List Th) (t : Th) (i : Nat) (h : i < ts.length) : th (ts ++ [t]) i = th ts i := by
  simp only [th, List.getD]; rw [List.getElem?_append_left h]
theorem th_append_new (ts : List Th) (t : Th) : th (ts ++ [t]) ts.length = t := by simp [th]
theorem kinds_new (n : Nat) (ts : List Th) (t : Th) (h : sz ts + t.l.length + 1 ≤ n) : kinds n (ts ++ [t]) = (kinds n ts).set (sz ts) t.k := by
  unfold kinds
  rw [fk_append, sz_append, List.set_append_right _ _ (by rw [len_fk]; omega), len_fk, Nat.sub_self]
  have e : n - sz ts = (t.l.length + (n - (sz ts + sz [t]))) + 1 := by simp [sz]; omega
  rw [e, List.replicate_succ, List.set_cons_zero]
  simp only [fk, List.append_nil, List.append_assoc, List.cons_append, List.replicate_append_replicate]
theorem words_new (n : Nat) (ts : List Th) (t : Th) (h : sz ts + t.l.length + 1 ≤ n) : words n (ts ++ [t]) = ((words n ts).set (sz ts) (t.l.length : Int)).take (sz ts + 1) ++ (t.l ++ ((words n ts).set (sz ts) (t.l.length : Int)).drop (sz ts + 1 + t.l.length)) := by
  obtain ⟨r, rfl⟩ : ∃ r, n = sz ts + (t.l.length + r + 1) := ⟨n - (sz ts + t.l.length + 1), by omega⟩
  unfold words
  rw [fw_append, sz_append, List.set_append_right _ _ (by rw [len_fw]; omega), len_fw, Nat.sub_self]
  have e : sz ts + (t.l.length + r + 1) - sz ts = (t.l.length + r) + 1 := by omega
  have e1 : sz ts + (t.l.length + r + 1) - (sz ts + sz [t]) = r := by simp [sz]; omega
  rw [e, e1, List.replicate_succ, List.set_cons_zero, List.take_append, List.drop_append, len_fw]
  rw [List.take_of_length_le (by rw [len_fw]; omega), List.drop_of_length_le (l := fw ts) (by rw [len_fw]; omega)]
  rw [show sz ts + 1 - sz ts = 1 from by omega, show sz ts + 1 + t.l.length - sz ts = t.l.length + 1 from by omega]
  simp [fw, List.drop_replicate]
theorem words_zero (n : Nat) (ts : List Th) (k : Int) (m : Nat) (h : sz ts + m + 1 ≤ n) : words n (ts ++ [⟨k, List.replicate m 0⟩]) = (words n ts).set (sz ts) (m : Int) := by
  obtain ⟨r, rfl⟩ : ∃ r, n = sz ts + (m + r + 1) := ⟨n - (sz ts + m + 1), by omega⟩
  unfold words
  rw [fw_append, sz_append, List.set_append_right _ _ (by rw [len_fw]; omega), len_fw, Nat.sub_self]
  have e : sz ts + (m + r + 1) - sz ts = (m + r) + 1 := by omega
  have e1 : sz ts + (m + r + 1) - (sz ts + sz [⟨k, List.replicate m 0⟩]) = r := by simp [sz]; omega
  rw [e, e1, List.replicate_succ, List.set_cons_zero]
  simp [fw, List.replicate_append_replicate]
theorem words_copy (n : Nat) (ts : List Th) (k : Int) (fs : List Int) (h : sz ts + fs.length + 1 ≤ n) :
    words n (ts ++ [⟨k, fs⟩]) = (words n (ts ++ [⟨k, List.replicate fs.length 0⟩])).take (sz ts + 1) ++ (fs ++ (words n (ts ++ [⟨k, List.replicate fs.length 0⟩])).drop (sz ts + 1 + fs.length)) := by
  rw [words_zero n ts k fs.length h, words_new n ts ⟨k, fs⟩ h]
theorem sz_snoc (ts : List Th) (t : Th) : sz (ts ++ [t]) = sz ts + t.l.length + 1 := by rw [sz_append]; simp [sz]; omega
end AP
end Go.Proofs.Ytcfepiihjbbnaaa
