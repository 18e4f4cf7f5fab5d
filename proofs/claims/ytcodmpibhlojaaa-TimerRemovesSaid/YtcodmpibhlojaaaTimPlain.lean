/-
  Timers as a list in the order in which they are next: put, taken, and how that list and the one in the order in which they were put go together. Pure. No condition.
-/
namespace Go.Proofs.Ytcodmpibhlojaaa
namespace TM
structure Ti where
  d : Int
  it : Int
  n : Int
def ins (x : Ti) : List Ti → List Ti
  | [] => [x]
  | y :: r => if x.d < y.d then x :: y :: r else y :: ins x r
def ix (p : Ti → Bool) : List Ti → Nat
  | [] => 0
  | x :: r => if p x then 0 else ix p r + 1
theorem ix_le (p : Ti → Bool) : ∀ l, ix p l ≤ l.length
  | [] => Nat.le_refl _
  | x :: r => by
    have := ix_le p r
    unfold ix; split <;> simp <;> omega
theorem ix_at (p : Ti → Bool) : ∀ l (h : ix p l < l.length), p (l[ix p l]'h) = true
  | x :: r, h => by
    unfold ix at h ⊢
    split at h
    · rename_i hp
      simp only [hp, if_true, List.getElem_cons_zero]
    · rename_i hp
      simp only [hp, Bool.false_eq_true, if_false, List.getElem_cons_succ]
      exact ix_at p r (by simpa using h)
theorem ix_ahead (p : Ti → Bool) : ∀ l (j : Nat) (h : j < l.length), j < ix p l → p (l[j]'h) = false
  | x :: r, j, h, hj => by
    unfold ix at hj
    split at hj
    · omega
    · rename_i hp
      cases j with
      | zero => simpa using hp
      | succ j => exact ix_ahead p r j (by simpa using h) (by omega)
theorem ix_of (p : Ti → Bool) : ∀ l (k : Nat), k ≤ l.length → (∀ j (h : j < l.length), j < k → p (l[j]'h) = false) → (∀ h : k < l.length, p (l[k]'h) = true) → ix p l = k
  | [], k, hk, _, _ => by simp at hk; subst hk; rfl
  | x :: r, k, hk, h1, h2 => by
    unfold ix
    cases k with
    | zero => rw [if_pos (by have := h2 (by simp); simpa using this)]
    | succ k =>
      rw [if_neg (by have := h1 0 (by simp) (by omega); simpa using this)]
      rw [ix_of p r k (by simpa using hk) (fun j h hj => h1 (j + 1) (by simpa using h) (by omega)) (fun h => h2 (by simpa using h))]
theorem ins_at (x : Ti) : ∀ l, ins x l = l.take (ix (fun y => decide (x.d < y.d)) l) ++ x :: l.drop (ix (fun y => decide (x.d < y.d)) l)
  | [] => rfl
  | y :: r => by
    unfold ins ix
    by_cases h : x.d < y.d
    · simp [h]
    · simp only [h, decide_false, if_false, Bool.false_eq_true, List.take_succ_cons, List.drop_succ_cons, List.cons_append]
      rw [← ins_at x r]
theorem ins_perm (x : Ti) : ∀ l, (ins x l).Perm (x :: l)
  | [] => .refl _
  | y :: r => by
    unfold ins
    split
    · exact .refl _
    · exact ((ins_perm x r).cons y).trans (.swap x y r)
theorem ins_len (x : Ti) (l : List Ti) : (ins x l).length = l.length + 1 := (ins_perm x l).length_eq
/-- x ahead of y. -/
def le (x y : Ti) : Prop := x.d < y.d ∨ (x.d = y.d ∧ x.n < y.n)
def Sorted (l : List Ti) : Prop := l.Pairwise le
theorem ins_sorted (x : Ti) : ∀ l, Sorted l → (∀ y ∈ l, y.n < x.n) → Sorted (ins x l)
  | [], _, _ => by simp [ins, Sorted]
  | y :: r, h, hn => by
    unfold Sorted at h
    rw [List.pairwise_cons] at h
    unfold ins
    split
    · rename_i hd
      unfold Sorted
      rw [List.pairwise_cons, List.pairwise_cons]
      refine ⟨fun z hz => ?_, h⟩
      rcases List.mem_cons.1 hz with rfl | hz
      · exact .inl hd
      · rcases h.1 z hz with h1 | h1
        · exact .inl (by omega)
        · exact .inl (by omega)
    · rename_i hd
      unfold Sorted
      rw [List.pairwise_cons]
      refine ⟨fun z hz => ?_, ins_sorted x r h.2 (fun z hz => hn z (List.mem_cons_of_mem _ hz))⟩
      rcases List.mem_cons.1 ((ins_perm x r).mem_iff.1 hz) with rfl | hz
      · rcases Int.lt_or_eq_of_le (Int.not_lt.1 hd) with h1 | h1
        · exact .inl h1
        · exact .inr ⟨h1, hn y (List.mem_cons_self ..)⟩
      · exact h.1 z hz
/-- the first one of which p is so is taken. -/
def tk (p : Ti → Bool) (l : List Ti) : Option (Int × List Ti) :=
  if h : ix p l < l.length then some ((l[ix p l]'h).it, l.eraseIdx (ix p l)) else none
theorem tk_some (p : Ti → Bool) (l : List Ti) (h : ix p l < l.length) : tk p l = some ((l[ix p l]'h).it, l.eraseIdx (ix p l)) := dif_pos h
theorem tk_none (p : Ti → Bool) (l : List Ti) (h : ¬ ix p l < l.length) : tk p l = none := dif_neg h
theorem erase_sorted {l : List Ti} (h : Sorted l) (k : Nat) : Sorted (l.eraseIdx k) := List.Pairwise.sublist (List.eraseIdx_sublist ..) h
def dueB (now : Int) (y : Ti) : Bool := decide (y.d ≤ now)
def isN (n : Int) (y : Ti) : Bool := decide (y.n = n)
theorem tk_due_nil (now : Int) : tk (dueB now) [] = none := rfl
theorem tk_due_yes (now : Int) (x : Ti) (r : List Ti) (h : x.d ≤ now) : tk (dueB now) (x :: r) = some (x.it, r) := by
  have : ix (dueB now) (x :: r) = 0 := by unfold ix; rw [if_pos (by simp [dueB, h])]
  rw [tk_some _ _ (by rw [this]; simp)]
  simp [this]
theorem ix_none (p : Ti → Bool) : ∀ l, (∀ y ∈ l, p y = false) → ix p l = l.length
  | [], _ => rfl
  | x :: r, h => by
    unfold ix
    rw [if_neg (by rw [h x (List.mem_cons_self ..)]; simp), ix_none p r (fun y hy => h y (List.mem_cons_of_mem _ hy))]
    rfl
theorem tk_due_no (now : Int) (x : Ti) (r : List Ti) (hs : Sorted (x :: r)) (h : now < x.d) : tk (dueB now) (x :: r) = none := by
  refine tk_none _ _ ?_
  rw [ix_none]
  · omega
  · intro y hy
    unfold Sorted at hs
    rw [List.pairwise_cons] at hs
    rcases List.mem_cons.1 hy with rfl | hy
    · simp [dueB]; omega
    · have := hs.1 y hy
      unfold le at this
      simp [dueB]; omega
/-- in the order in which they are next, and in the order in which they were put. -/
structure Rel (l L : List Ti) : Prop where
  perm : l.Perm L
  sorted : Sorted l
  num : L.Pairwise (fun x y => x.n < y.n)
theorem Rel.nil : Rel [] [] := ⟨.refl _, .nil, .nil⟩
theorem Rel.put {l L : List Ti} (h : Rel l L) (x : Ti) (hx : ∀ y ∈ L, y.n < x.n) : Rel (ins x l) (L ++ [x]) := by
  refine ⟨((ins_perm x l).trans (h.perm.cons x)).trans ?_, ins_sorted x l h.sorted (fun y hy => hx y (h.perm.mem_iff.1 hy)), ?_⟩
  · exact (List.perm_append_singleton x L).symm
  · rw [List.pairwise_append]
    exact ⟨h.num, List.pairwise_singleton _ _, fun a ha b hb => by rw [List.mem_singleton.1 hb]; exact hx a ha⟩
theorem Rel.len {l L : List Ti} (h : Rel l L) : l.length = L.length := h.perm.length_eq
theorem num_inj {L : List Ti} (h : L.Pairwise (fun x y => x.n < y.n)) {i j : Nat} (hi : i < L.length) (hj : j < L.length) (e : L[i].n = L[j].n) : i = j := by
  rw [List.pairwise_iff_getElem] at h
  rcases Nat.lt_trichotomy i j with hl | hl | hl
  · have := h i j hi hj hl; omega
  · exact hl
  · have := h j i hj hi hl; omega
theorem erase_cons : ∀ (l : List Ti) (i : Nat) (h : i < l.length), (l[i] :: l.eraseIdx i).Perm l
  | x :: r, 0, _ => .refl _
  | x :: r, i + 1, h => by
    simp only [List.getElem_cons_succ, List.eraseIdx_cons_succ]
    exact (List.Perm.swap _ _ _).trans ((erase_cons r i (by simpa using h)).cons x)
theorem perm_erase {l L : List Ti} {i k : Nat} (hp : l.Perm L) (hi : i < l.length) (hk : k < L.length) (e : l[i] = L[k]) : (l.eraseIdx i).Perm (L.eraseIdx k) := by
  have h1 : l.Perm (l[i] :: l.eraseIdx i) := (erase_cons l i hi).symm
  have h2 : L.Perm (L[k] :: L.eraseIdx k) := (erase_cons L k hk).symm
  have h3 := (h1.symm.trans hp).trans h2
  rw [e] at h3
  exact (List.perm_cons _).1 h3
theorem Rel.erase {l L : List Ti} (h : Rel l L) {i k : Nat} (hi : i < l.length) (hk : k < L.length) (e : l[i] = L[k]) : Rel (l.eraseIdx i) (L.eraseIdx k) :=
  ⟨perm_erase h.perm hi hk e, erase_sorted h.sorted _, List.Pairwise.sublist (List.eraseIdx_sublist ..) h.num⟩
/-- k: the place of the first of those that are due earliest. -/
def IsFirst (L : List Ti) (k : Nat) : Prop := ∃ hk : k < L.length, (∀ j (h : j < L.length), L[k].d ≤ L[j].d) ∧ ∀ j (h : j < L.length), j < k → L[k].d < L[j].d
theorem Rel.first {x : Ti} {r L : List Ti} (h : Rel (x :: r) L) {k : Nat} (hk : IsFirst L k) : ∃ hl : k < L.length, x = L[k] := by
  obtain ⟨hl, h1, h2⟩ := hk
  refine ⟨hl, ?_⟩
  have hm : L[k] ∈ x :: r := h.perm.mem_iff.2 (List.getElem_mem hl)
  rcases List.mem_cons.1 hm with he | he
  · exact he.symm
  · exfalso
    have hx : x ∈ L := h.perm.mem_iff.1 (List.mem_cons_self ..)
    obtain ⟨m, hm, hxm⟩ := List.mem_iff_getElem.1 hx
    have hs := h.sorted
    unfold Sorted at hs
    rw [List.pairwise_cons] at hs
    have hle := hs.1 _ he
    have ha := h1 m hm
    rw [hxm] at ha
    rcases hle with hle | ⟨hd, hn⟩
    · omega
    · have hmk : m < k := by
        rcases Nat.lt_trichotomy m k with hl' | hl' | hl'
        · exact hl'
        · subst hl'; rw [hxm] at hn; omega
        · have := (List.pairwise_iff_getElem.1 h.num) k m hl hm hl'
          rw [hxm] at this; omega
      have := h2 m hm hmk
      rw [hxm] at this; omega
theorem Rel.rest {x : Ti} {r L : List Ti} (h : Rel (x :: r) L) {k : Nat} (hl : k < L.length) (e : x = L[k]) : Rel r (L.eraseIdx k) :=
  h.erase (i := 0) (by simp) hl (by simpa using e)
/-- of those of a number there is one. -/
theorem Rel.number {l L : List Ti} (h : Rel l L) (n : Int) {k : Nat} (hk : k < L.length) (e : L[k].n = n) : tk (isN n) l = some (L[k].it, l.eraseIdx (ix (isN n) l)) ∧ Rel (l.eraseIdx (ix (isN n) l)) (L.eraseIdx k) := by
  have hm : L[k] ∈ l := h.perm.mem_iff.2 (List.getElem_mem hk)
  have hi : ix (isN n) l < l.length := by
    rcases Nat.lt_or_ge (ix (isN n) l) l.length with hlt | hge
    · exact hlt
    · obtain ⟨i, hi, he⟩ := List.mem_iff_getElem.1 hm
      have := ix_ahead (isN n) l i hi (by omega)
      rw [he] at this
      simp [isN, e] at this
  have hat := ix_at (isN n) l hi
  have hin : l[ix (isN n) l] ∈ L := h.perm.mem_iff.1 (List.getElem_mem hi)
  obtain ⟨j, hj, hje⟩ := List.mem_iff_getElem.1 hin
  have hn : l[ix (isN n) l].n = n := by simpa [isN] using hat
  have hjk : j = k := num_inj h.num hj hk (by rw [hje, hn, e])
  subst hjk
  refine ⟨?_, h.erase hi hk hje.symm⟩
  rw [tk_some _ _ hi, hje]
theorem Rel.no_number {l L : List Ti} (h : Rel l L) (n : Int) (e : ∀ y ∈ L, y.n ≠ n) : tk (isN n) l = none := by
  refine tk_none _ _ ?_
  rw [ix_none]
  · omega
  · intro y hy
    simp [isN, e y (h.perm.mem_iff.1 hy)]
end TM
end Go.Proofs.Ytcodmpibhlojaaa
