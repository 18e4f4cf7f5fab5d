/-
  Layer 7 in plain words: a datum as text, and what is left to print of lists that are open. No condition.
-/
import Derived.Test.YtaghlpolljaedaaGreatLexPure
import Derived.Lib.ItoaNum
namespace Go.Proofs.YtaghlpolljaedaaGreat
namespace SX
open LX RX
theorem getD_mem (l : List Nat) (k : Nat) (h : k < l.length) : l.getD k 0 ∈ l := by
  rw [List.getD_eq_getElem?_getD, List.getElem?_eq_getElem h]
  exact List.getElem_mem h
def nd0 : Nd := ⟨0, 0, 0, emp, []⟩
def ndAt (ns : List Nd) (i : Nat) : Nd := ns.getD i nd0
/-- Is it a quote? -/
def quo (ns : List Nd) (x : Nd) : Bool := decide (x.l.length = 2) && (decide ((ndAt ns (x.l.getD 0 0)).kind = 3) && decide ((ndAt ns (x.l.getD 0 0)).s = quoteB))
/-- Texts with a blank between each. -/
def joinB : List (List UInt8) → List UInt8
  | [] => []
  | t :: ts => t ++ ts.flatMap fun u => 32 :: u
/-- A datum as text; f: how deep it goes at most. -/
def dtx (ns : List Nd) : Nat → Nat → List UInt8
  | 0, _ => []
  | f + 1, i =>
    let x := ndAt ns i
    if x.kind = 1 then Lib.itoa x.n
    else if x.kind = 2 then (if x.n = 1 then [35, 116] else [35, 102])
    else if x.kind = 3 then bts x.s
    else if quo ns x = true then 39 :: dtx ns f (x.l.getD 1 0)
    else 40 :: (joinB (x.l.map (dtx ns f)) ++ [41])
def dt (ns : List Nd) (i : Nat) : List UInt8 := dtx ns (i + 1) i
/-- Data of which each list's places are behind. -/
structure Ok (ns : List Nd) : Prop where
  kind : ∀ x ∈ ns, x.kind = 1 ∨ x.kind = 2 ∨ x.kind = 3 ∨ x.kind = 4
  leaf : ∀ x ∈ ns, x.kind ≠ 4 → x.l = []
  lt : ∀ i, i < ns.length → ∀ p ∈ (ndAt ns i).l, p < i
  len : ∀ i, i < ns.length → (ndAt ns i).l.length ≤ 1099511627776
  num : ∀ i, i < ns.length → -9223372036854775808 ≤ (ndAt ns i).n ∧ (ndAt ns i).n ≤ 9223372036854775807
theorem dtx_eq {ns : List Nd} (h : Ok ns) : ∀ (f g i : Nat), i < ns.length → i < f → i < g → dtx ns f i = dtx ns g i := by
  intro f
  induction f with
  | zero => intro g i _ hf _; omega
  | succ f ih =>
    intro g i hi hf hg
    cases g with
    | zero => omega
    | succ g =>
      have hl := h.lt i hi
      unfold dtx
      simp only []
      have e : ∀ p ∈ (ndAt ns i).l, dtx ns f p = dtx ns g p := fun p hp => by
        have := hl p hp
        exact ih g p (by omega) (by omega) (by omega)
      split
      · rfl
      split
      · rfl
      split
      · rfl
      split
      · rename_i hq
        have h2 : (ndAt ns i).l.length = 2 := by
          unfold quo at hq
          rw [Bool.and_eq_true] at hq
          simpa using hq.1
        have : (ndAt ns i).l.getD 1 0 ∈ (ndAt ns i).l := by
          exact getD_mem _ _ (by omega)
        rw [e _ this]
      · rw [List.map_congr_left e]
theorem dt_eq {ns : List Nd} (h : Ok ns) {i : Nat} (hi : i < ns.length) : dt ns i = (let x := ndAt ns i
    if x.kind = 1 then Lib.itoa x.n
    else if x.kind = 2 then (if x.n = 1 then [35, 116] else [35, 102])
    else if x.kind = 3 then bts x.s
    else if quo ns x = true then 39 :: dt ns (x.l.getD 1 0)
    else 40 :: (joinB (x.l.map (dt ns)) ++ [41])) := by
  have hl := h.lt i hi
  have e : ∀ p ∈ (ndAt ns i).l, dtx ns i p = dt ns p := fun p hp => by
    have := hl p hp
    exact dtx_eq h _ _ _ (by omega) (by omega) (by omega)
  unfold dt
  rw [dtx]
  simp only []
  split
  · rfl
  split
  · rfl
  split
  · rfl
  split
  · rename_i hq
    have h2 : (ndAt ns i).l.length = 2 := by
      unfold quo at hq
      rw [Bool.and_eq_true] at hq
      simpa using hq.1
    have : (ndAt ns i).l.getD 1 0 ∈ (ndAt ns i).l := by
      exact getD_mem _ _ (by omega)
    rw [e _ this]
    rfl
  · rw [List.map_congr_left e]
    rfl
/-- What is left to print of a list of which so many are printed. -/
def restL (ns : List Nd) (l : List Nat) (k : Nat) : List UInt8 :=
  (if k = 0 then joinB (l.map (dt ns)) else (l.drop k).flatMap fun p => 32 :: dt ns p) ++ [41]
/-- One element more: a blank ahead of it, but of the first. -/
theorem restL_step (ns : List Nd) (l : List Nat) (k : Nat) (h : k < l.length) : restL ns l k = (if k = 0 then [] else [32]) ++ (dt ns l[k] ++ restL ns l (k + 1)) := by
  unfold restL
  rw [if_neg (Nat.succ_ne_zero k)]
  by_cases hk : k = 0
  · subst hk
    cases l with
    | nil => simp at h
    | cons a l => simp [joinB, List.flatMap_map]
  · have hd : l.drop k = l[k] :: l.drop (k + 1) := List.drop_eq_getElem_cons h
    rw [if_neg hk, if_neg hk, hd, List.flatMap_cons]
    simp only [List.cons_append, List.append_assoc, List.nil_append]
theorem restL_end (ns : List Nd) (l : List Nat) : restL ns l l.length = [41] := by
  unfold restL
  split
  · rename_i h
    have : l = [] := List.eq_nil_of_length_eq_zero h
    subst this
    rfl
  · simp
/-- .. of all that is open, what was opened last first. -/
def restO (ns : List Nd) (os : List (List Nat × Nat)) : List UInt8 := os.flatMap fun x => restL ns x.1 x.2
/-- How much work a datum is. -/
def szF (ns : List Nd) : Nat → Nat → Nat
  | 0, _ => 0
  | f + 1, i => 2 + ((ndAt ns i).l.map (szF ns f)).sum
def sz (ns : List Nd) (i : Nat) : Nat := szF ns (i + 1) i
theorem szF_eq {ns : List Nd} (h : Ok ns) : ∀ (f g i : Nat), i < ns.length → i < f → i < g → szF ns f i = szF ns g i := by
  intro f
  induction f with
  | zero => intro g i _ hf _; omega
  | succ f ih =>
    intro g i hi hf hg
    cases g with
    | zero => omega
    | succ g =>
      have hl := h.lt i hi
      unfold szF
      rw [List.map_congr_left (fun p hp => by have := hl p hp; exact ih g p (by omega) (by omega) (by omega))]
theorem sz_eq {ns : List Nd} (h : Ok ns) {i : Nat} (hi : i < ns.length) : sz ns i = 2 + ((ndAt ns i).l.map (sz ns)).sum := by
  have hl := h.lt i hi
  have e : (ndAt ns i).l.map (szF ns i) = (ndAt ns i).l.map (sz ns) := List.map_congr_left fun p hp => by
    have := hl p hp
    exact szF_eq h _ _ p (by omega) (by omega) (by omega)
  rw [← e]
  rfl
def szO (ns : List Nd) (os : List (List Nat × Nat)) : Nat := (os.map fun x => 1 + ((x.1.drop x.2).map (sz ns)).sum).sum
theorem sum_mem {l : List Nat} {f : Nat → Nat} {x : Nat} (h : x ∈ l) : f x ≤ (l.map f).sum := by
  induction l with
  | nil => cases h
  | cons y l ih =>
    rw [List.map_cons, List.sum_cons]
    rcases List.mem_cons.1 h with rfl | h
    · omega
    · have := ih h; omega
theorem Ok.kind_at {ns : List Nd} (h : Ok ns) {i : Nat} (hi : i < ns.length) : (ndAt ns i).kind = 1 ∨ (ndAt ns i).kind = 2 ∨ (ndAt ns i).kind = 3 ∨ (ndAt ns i).kind = 4 := by
  unfold ndAt
  rw [List.getD_eq_getElem?_getD, List.getElem?_eq_getElem hi]
  exact h.kind _ (List.getElem_mem hi)
theorem Ok.leaf_at {ns : List Nd} (h : Ok ns) {i : Nat} (hi : i < ns.length) (hk : (ndAt ns i).kind ≠ 4) : (ndAt ns i).l = [] := by
  unfold ndAt at *
  rw [List.getD_eq_getElem?_getD, List.getElem?_eq_getElem hi] at *
  exact h.leaf _ (List.getElem_mem hi) hk
theorem quo_two {ns : List Nd} {x : Nd} (h : quo ns x = true) : x.l.length = 2 := by
  unfold quo at h
  rw [Bool.and_eq_true] at h
  simpa using h.1
theorem quo_kind {ns : List Nd} (h : Ok ns) {i : Nat} (hi : i < ns.length) (hq : quo ns (ndAt ns i) = true) : (ndAt ns i).kind = 4 := by
  rcases Classical.em ((ndAt ns i).kind = 4) with e | e
  · exact e
  · have := h.leaf_at hi e
    have h2 := quo_two hq
    rw [this] at h2
    cases h2
theorem dt_int {ns : List Nd} (h : Ok ns) {i : Nat} (hi : i < ns.length) (hk : (ndAt ns i).kind = 1) : dt ns i = Lib.itoa (ndAt ns i).n := by
  rw [dt_eq h hi]; simp [hk]
theorem dt_bool {ns : List Nd} (h : Ok ns) {i : Nat} (hi : i < ns.length) (hk : (ndAt ns i).kind = 2) : dt ns i = if (ndAt ns i).n = 1 then [35, 116] else [35, 102] := by
  rw [dt_eq h hi]; simp [hk]
theorem dt_name {ns : List Nd} (h : Ok ns) {i : Nat} (hi : i < ns.length) (hk : (ndAt ns i).kind = 3) : dt ns i = bts (ndAt ns i).s := by
  rw [dt_eq h hi]; simp [hk]
theorem dt_quote {ns : List Nd} (h : Ok ns) {i : Nat} (hi : i < ns.length) (hq : quo ns (ndAt ns i) = true) : dt ns i = 39 :: dt ns ((ndAt ns i).l.getD 1 0) := by
  rw [dt_eq h hi]; simp [quo_kind h hi hq, hq]
theorem dt_list {ns : List Nd} (h : Ok ns) {i : Nat} (hi : i < ns.length) (hk : (ndAt ns i).kind = 4) (hq : quo ns (ndAt ns i) = false) : dt ns i = 40 :: restL ns (ndAt ns i).l 0 := by
  rw [dt_eq h hi]; simp [hk, hq, restL]
theorem sz_quote {ns : List Nd} (h : Ok ns) {i : Nat} (hi : i < ns.length) (hq : quo ns (ndAt ns i) = true) : sz ns ((ndAt ns i).l.getD 1 0) + 2 ≤ sz ns i ∧ (ndAt ns i).l.getD 1 0 < i := by
  have h2 := quo_two hq
  have hm := getD_mem (ndAt ns i).l 1 (by omega)
  have := sum_mem (f := sz ns) hm
  have h3 := sz_eq h hi
  exact ⟨by omega, h.lt i hi _ hm⟩
theorem sz_two {ns : List Nd} (h : Ok ns) {i : Nat} (hi : i < ns.length) : 2 ≤ sz ns i := by
  have h3 := sz_eq h hi
  omega
theorem restO_cons (ns : List Nd) (l : List Nat) (k : Nat) (os : List (List Nat × Nat)) : restO ns ((l, k) :: os) = restL ns l k ++ restO ns os := by simp [restO]
theorem szO_cons (ns : List Nd) (l : List Nat) (k : Nat) (os : List (List Nat × Nat)) : szO ns ((l, k) :: os) = 1 + ((l.drop k).map (sz ns)).sum + szO ns os := by simp [szO]
theorem restO_len (ns : List Nd) (os : List (List Nat × Nat)) : os.length ≤ (restO ns os).length := by
  induction os with
  | nil => simp
  | cons x os ih =>
    obtain ⟨l, k⟩ := x
    rw [restO_cons, List.length_append, List.length_cons]
    have : 1 ≤ (restL ns l k).length := by unfold restL; rw [List.length_append]; simp
    omega
theorem drop_sum (ns : List Nd) (l : List Nat) (k : Nat) (h : k < l.length) : ((l.drop k).map (sz ns)).sum = sz ns l[k] + ((l.drop (k + 1)).map (sz ns)).sum := by
  rw [List.drop_eq_getElem_cons h, List.map_cons, List.sum_cons]
end SX
end Go.Proofs.YtaghlpolljaedaaGreat
