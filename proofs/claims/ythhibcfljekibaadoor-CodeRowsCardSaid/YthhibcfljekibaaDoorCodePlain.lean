/-
  Instructions that may be, as plain numbers: how many words are ahead of each, which are wrong. No condition.
-/
import Derived.Test.YthhibcfljekibaaDoorWordPlain
namespace Go.Proofs.YthhibcfljekibaaDoor
namespace KP
/-- An instruction. -/
structure Ki where
  op : Int
  a : Int
  b : Int
  w : Int
/-- A block. -/
structure Kb where
  many : Int
  l : List Ki
def pops (x : Ki) : Int := if x.op = 11 then x.b else if x.op = 12 ∨ x.op = 13 then x.a else 0
def pushes (x : Ki) : Int := if x.op = 7 then 1 else 0
def succs (i : Int) (x : Ki) : List Int :=
  if x.op = 8 then [x.a] else if x.op = 9 then [i + 1, x.a] else if x.op = 13 ∨ x.op = 15 ∨ x.op = 16 then [] else [i + 1]
def at_ (d : List Int) (i : Nat) : Int := d.getD i (-1)
/-- One successor is told its number. -/
def mark (d : List Int) (i : Nat) (left s : Int) : Option (List Int) :=
  if s ≤ i then none else if (d.length : Int) ≤ s then none else if at_ d s.toNat ≠ -1 ∧ at_ d s.toNat ≠ left then none else some (d.set s.toNat left)
def marks (d : List Int) (i : Nat) (left : Int) : List Int → Option (List Int)
  | [] => some d
  | s :: r => match mark d i left s with
    | none => none
    | some d' => marks d' i left r
def lead (d : List Int) (i : Nat) (x : Ki) : Option (List Int) :=
  if pops x < 0 then none else if at_ d i < pops x then none else marks d i (at_ d i - pops x + pushes x) (succs i x)
def run : List Ki → Nat → List Int → Option (List Int)
  | [], _, d => some d
  | x :: r, i, d => if at_ d i = -1 then run r (i + 1) d else match lead d i x with
    | none => none
    | some d' => run r (i + 1) d'
def start (n : Nat) : List Int := (List.replicate n (-1)).set 0 0
def depth (l : List Ki) : Option (List Int) := if l = [] then none else run l 0 (start l.length)
/-- Which fields an instruction has. -/
def ownL : List (List Int) := [[], [2], [0, 1], [0], [0, 1], [0], [0], [], [0], [0], [0], [0, 1], [0], [0], [], [], []]
def own (op : Int) : List Int := ownL.getD op.toNat []
def fld (x : Ki) (f : Int) : Int := if f = 0 then x.a else if f = 1 then x.b else x.w
def other (x : Ki) (f : Int) : Bool := !(own x.op).contains f && fld x f != 0
def others (x : Ki) : Bool := other x 0 || (other x 1 || other x 2)
def const (w : Int) : Bool := WP.mayB w && !WP.toB 1 w
def manyL : List Int := [0, 2, 2, 2, 2, 2, 2, 2, 2, 1, 1, 1, 2, 1, 1, 1, 1, 1, 1, 1, 1, 1, 2, 1, 0, 2, 2, 1, 2, 1, 0]
/-- How many arguments a primitive has, by its number. -/
def arity (a : Int) : Option Int := if 1 ≤ a ∧ a ≤ 30 ∧ a ≠ 18 then some (manyL.getD a.toNat 0) else none
/-- What is asked of an instruction besides its fields. -/
def fits (n : Int) (x : Ki) (d : Int) : Bool :=
  if x.op = 10 then decide (0 < x.a) && decide (x.a < n) else if x.op = 11 then arity x.a == some x.b else if x.op = 13 ∨ x.op = 15 ∨ x.op = 16 then d == pops x else true
def whole (x : Ki) : Bool := decide (1 ≤ x.op) && (decide (x.op ≤ 16) && (!others x && (decide (0 ≤ x.a) && (decide (0 ≤ x.b) && const x.w))))
def may (n : Int) (x : Ki) (d : Int) : Bool := whole x && fits n x d
def firstBad (n : Int) : List Ki → List Int → Nat → Option Nat
  | x :: r, d :: ds, i => if may n x d then firstBad n r ds (i + 1) else some i
  | _, _, _ => none
def wrongAt (n : Int) (b : Kb) (most : Int) : Option Nat :=
  if b.many < 0 then some 0 else if most < b.many then some 0 else match depth b.l with
    | none => some 0
    | some d => if d.contains (-1) then some 0 else firstBad n b.l d 0
def checkL (n : Int) : List Kb → Nat → Int → Int × Int × Int
  | [], _, _ => (0, 0, 0)
  | b :: r, i, most => match wrongAt n b most with
    | some k => (i, k, 110)
    | none => checkL n r (i + 1) 100
def check (l : List Kb) : Int × Int × Int := if l = [] then (0, 0, 1) else checkL l.length l 0 0

/-! ### how depths go -/
theorem at_set (d : List Int) (k : Nat) (v : Int) (j : Nat) : at_ (d.set k v) j = if j = k ∧ k < d.length then v else at_ d j := by
  unfold at_
  by_cases h : j = k
  · subst h
    by_cases h2 : j < d.length
    · rw [if_pos ⟨rfl, h2⟩]; simp [List.getD, h2]
    · rw [if_neg (fun h => h2 h.2)]; simp [List.getD, h2]
  · rw [if_neg (fun h' => h h'.1)]; simp [List.getD, Ne.symm h]
/-- Each is a number or not told yet. -/
def Nn (d : List Int) : Prop := ∀ j, -1 ≤ at_ d j
/-- What a step keeps: the length, what is told, and all up to i. -/
structure Kept (i : Nat) (d e : List Int) : Prop where
  len : e.length = d.length
  told : ∀ j, at_ d j ≠ -1 → at_ e j = at_ d j
  low : ∀ j, j ≤ i → at_ e j = at_ d j
  nn : Nn d → Nn e
theorem Kept.refl (i : Nat) (d : List Int) : Kept i d d := ⟨rfl, fun _ _ => rfl, fun _ _ => rfl, id⟩
theorem Kept.trans {i k : Nat} {d e f : List Int} (h : Kept i d e) (g : Kept k e f) (hk : i ≤ k) : Kept i d f :=
  ⟨g.len.trans h.len, fun j hj => (g.told j (by rw [h.told j hj]; exact hj)).trans (h.told j hj), fun j hj => (g.low j (by omega)).trans (h.low j hj), fun n => g.nn (h.nn n)⟩
theorem mark_kept {d e : List Int} {i : Nat} {left s : Int} (hl : 0 ≤ left) (h : mark d i left s = some e) : Kept i d e ∧ (i : Int) < s ∧ s < d.length ∧ at_ e s.toNat = left := by
  unfold mark at h
  split at h
  · cases h
  split at h
  · cases h
  split at h
  · cases h
  rename_i h1 h2 h3
  injection h with h
  subst h
  refine ⟨⟨by simp, fun j hj => ?_, fun j hj => ?_, fun n j => ?_⟩, by omega, by omega, ?_⟩
  · rw [at_set]
    split
    · rename_i h4
      obtain ⟨rfl, _⟩ := h4
      by_cases h5 : at_ d s.toNat = left
      · exact h5.symm
      · exact absurd ⟨hj, h5⟩ h3
    · rfl
  · rw [at_set, if_neg (by omega)]
  · rw [at_set]
    split
    · omega
    · exact n j
  · rw [at_set, if_pos ⟨rfl, by omega⟩]
theorem marks_kept {i : Nat} {left : Int} (hl : 0 ≤ left) : ∀ (ss : List Int) {d e : List Int}, marks d i left ss = some e → Kept i d e ∧ ∀ s ∈ ss, (i : Int) < s ∧ s < d.length ∧ at_ e s.toNat = left := by
  intro ss
  induction ss with
  | nil => intro d e h; injection h with h; subst h; exact ⟨Kept.refl _ _, fun s hs => by cases hs⟩
  | cons s r ih =>
    intro d e h
    unfold marks at h
    cases hm : mark d i left s with
    | none => rw [hm] at h; cases h
    | some d' =>
      rw [hm] at h
      obtain ⟨k1, a1, a2, a3⟩ := mark_kept hl hm
      obtain ⟨k2, b2⟩ := ih h
      refine ⟨k1.trans k2 (Nat.le_refl _), fun t ht => ?_⟩
      rcases List.mem_cons.1 ht with rfl | ht
      · exact ⟨a1, a2, by rw [k2.told _ (by rw [a3]; omega), a3]⟩
      · obtain ⟨c1, c2, c3⟩ := b2 t ht
        exact ⟨c1, by rw [← k1.len]; exact c2, c3⟩
/-- What holds of an instruction that is come to. -/
structure Good (e : List Int) (j : Nat) (x : Ki) : Prop where
  pos : 0 ≤ pops x
  le : pops x ≤ at_ e j
  next : ∀ s ∈ succs j x, (j : Int) < s ∧ s < e.length ∧ at_ e s.toNat = at_ e j - pops x + pushes x
theorem pushes_nn (x : Ki) : 0 ≤ pushes x := by unfold pushes; split <;> omega
theorem lead_kept {d e : List Int} {i : Nat} {x : Ki} (h : lead d i x = some e) : Kept i d e ∧ Good e i x := by
  unfold lead at h
  split at h
  · cases h
  split at h
  · cases h
  rename_i h1 h2
  have := pushes_nn x
  obtain ⟨k, g⟩ := marks_kept (by omega) _ h
  refine ⟨k, by omega, by rw [k.low i (Nat.le_refl _)]; omega, fun s hs => ?_⟩
  obtain ⟨a, b, c⟩ := g s hs
  exact ⟨a, by rw [k.len]; exact b, by rw [c, k.low i (Nat.le_refl _)]⟩
theorem Good.mono {e f : List Int} {j : Nat} {x : Ki} (g : Good e j x) (k : Kept j e f) : Good f j x := by
  have e1 := k.low j (Nat.le_refl _)
  refine ⟨g.pos, by rw [e1]; exact g.le, fun s hs => ?_⟩
  obtain ⟨a, b, c⟩ := g.next s hs
  refine ⟨a, by rw [k.len]; exact b, ?_⟩
  have := pushes_nn x
  have := g.le
  rw [k.told _ (by rw [c]; omega), c, e1]
theorem run_kept : ∀ (l : List Ki) (i : Nat) {d e : List Int}, run l i d = some e → Kept i d e ∧ ∀ (k : Nat) (x : Ki), l[k]? = some x → at_ e (i + k) ≠ -1 → Good e (i + k) x := by
  intro l
  induction l with
  | nil => intro i d e h; injection h with h; subst h; exact ⟨Kept.refl _ _, fun k x hx => by simp at hx⟩
  | cons y r ih =>
    intro i d e h
    unfold run at h
    split at h
    · rename_i h0
      obtain ⟨k1, g1⟩ := ih (i + 1) h
      refine ⟨⟨k1.len, k1.told, fun j hj => k1.low j (by omega), k1.nn⟩, fun k x hx hne => ?_⟩
      cases k with
      | zero => rw [Nat.add_zero, k1.low i (by omega)] at hne; exact absurd h0 hne
      | succ k =>
        have := g1 k x (by simpa using hx) (by rw [show i + 1 + k = i + (k + 1) by omega]; exact hne)
        rw [show i + 1 + k = i + (k + 1) by omega] at this
        exact this
    · cases hl : lead d i y with
      | none => rw [hl] at h; cases h
      | some d' =>
        rw [hl] at h
        obtain ⟨k0, g0⟩ := lead_kept hl
        obtain ⟨k1, g1⟩ := ih (i + 1) h
        have k1' : Kept i d' e := ⟨k1.len, k1.told, fun j hj => k1.low j (by omega), k1.nn⟩
        refine ⟨k0.trans k1' (Nat.le_refl _), fun k x hx hne => ?_⟩
        cases k with
        | zero =>
          simp only [List.getElem?_cons_zero, Option.some.injEq] at hx
          subst hx
          exact g0.mono k1'
        | succ k =>
          have := g1 k x (by simpa using hx) (by rw [show i + 1 + k = i + (k + 1) by omega]; exact hne)
          rw [show i + 1 + k = i + (k + 1) by omega] at this
          exact this
theorem start_len (n : Nat) : (start n).length = n := by simp [start]
theorem start_nn (n : Nat) : Nn (start n) := by
  intro j
  unfold start
  rw [at_set]
  split
  · omega
  · unfold at_
    simp only [List.getD, List.getElem?_replicate]
    split <;> simp
theorem depth_good {l : List Ki} {e : List Int} (h : depth l = some e) : e.length = l.length ∧ 0 < l.length ∧ at_ e 0 = 0 ∧ Nn e ∧ ∀ (k : Nat) (x : Ki), l[k]? = some x → at_ e k ≠ -1 → Good e k x := by
  unfold depth at h
  split at h
  · cases h
  rename_i hne
  have h0 : 0 < l.length := List.length_pos_iff.2 hne
  obtain ⟨k, g⟩ := run_kept l 0 h
  refine ⟨by rw [k.len, start_len], h0, ?_, k.nn (start_nn _), fun j x hx hj => ?_⟩
  · rw [k.low 0 (Nat.le_refl _)]
    unfold start
    rw [at_set, if_pos ⟨rfl, by simpa using h0⟩]
  · have := g j x hx (by rw [Nat.zero_add]; exact hj)
    rw [Nat.zero_add] at this
    exact this
theorem all_told {d : List Int} (h : d.contains (-1) = false) (j : Nat) (hj : j < d.length) : at_ d j ≠ -1 := by
  intro h2
  unfold at_ at h2
  rw [List.getD_eq_getElem?_getD, List.getElem?_eq_getElem hj, Option.getD_some] at h2
  have : d.contains (-1) = true := by
    rw [List.contains_iff_mem]; rw [← h2]; exact List.getElem_mem hj
  rw [h] at this; cases this
/-- No more words than instructions ahead. -/
def Low (d : List Int) : Prop := ∀ j : Nat, at_ d j ≤ j
theorem start_low (n : Nat) : Low (start n) := by
  intro j
  unfold start
  rw [at_set]
  split
  · omega
  · unfold at_
    simp only [List.getD, List.getElem?_replicate]
    split <;> simp <;> omega
theorem marks_low {i : Nat} {left : Int} (hl : left ≤ i + 1) : ∀ (ss : List Int) {d e : List Int}, marks d i left ss = some e → Low d → Low e := by
  intro ss
  induction ss with
  | nil => intro d e h hd; injection h with h; subst h; exact hd
  | cons s r ih =>
    intro d e h hd
    unfold marks at h
    cases hm : mark d i left s with
    | none => rw [hm] at h; cases h
    | some d' =>
      rw [hm] at h
      refine ih h ?_
      unfold mark at hm
      split at hm
      · cases hm
      split at hm
      · cases hm
      split at hm
      · cases hm
      injection hm with hm
      subst hm
      intro j
      rw [at_set]
      split
      · omega
      · exact hd j
theorem lead_low {d e : List Int} {i : Nat} {x : Ki} (h : lead d i x = some e) (hd : Low d) : Low e := by
  unfold lead at h
  split at h
  · cases h
  split at h
  · cases h
  have h1 := hd i
  have h2 : pushes x ≤ 1 := by unfold pushes; split <;> omega
  exact marks_low (by omega) _ h hd
/-! ### which is wrong first -/
theorem firstBad_none {n : Int} : ∀ (l : List Ki) (d : List Int) (i : Nat), l.length = d.length → (firstBad n l d i = none ↔ ∀ (k : Nat) (x : Ki), l[k]? = some x → may n x (at_ d k) = true) := by
  intro l
  induction l with
  | nil => intro d i h; simp [firstBad]
  | cons y r ih =>
    intro d i h
    cases d with
    | nil => simp at h
    | cons e d =>
      unfold firstBad
      have h' : r.length = d.length := by simpa using h
      constructor
      · intro hb k x hx
        split at hb
        · rename_i hm
          cases k with
          | zero => simp at hx; subst hx; exact hm
          | succ k => exact (ih d (i + 1) h').1 hb k x (by simpa using hx)
        · cases hb
      · intro hb
        rw [if_pos (show may n y e = true from hb 0 y rfl)]
        exact (ih d (i + 1) h').2 fun k x hx => hb (k + 1) x (by simpa using hx)
theorem firstBad_some {n : Int} : ∀ (l : List Ki) (d : List Int) (i : Nat) (k : Nat), l.length = d.length → (firstBad n l d i = some (i + k) ↔ (∃ x, l[k]? = some x ∧ may n x (at_ d k) = false) ∧ ∀ (j : Nat) (x : Ki), j < k → l[j]? = some x → may n x (at_ d j) = true) := by
  intro l
  induction l with
  | nil => intro d i k h; simp [firstBad]
  | cons y r ih =>
    intro d i k h
    cases d with
    | nil => simp at h
    | cons e d =>
      unfold firstBad
      have h' : r.length = d.length := by simpa using h
      cases k with
      | zero =>
        by_cases hm : may n y e = true
        · rw [if_pos hm]
          constructor
          · intro hb
            exfalso
            have : ∀ (l : List Ki) (d : List Int) (i j : Nat), firstBad n l d i = some j → i ≤ j := by
              intro l
              induction l with
              | nil => intro d i j h; cases d <;> cases h
              | cons y r ih2 =>
                intro d i j h
                cases d with
                | nil => cases h
                | cons e d =>
                  unfold firstBad at h
                  split at h
                  · have := ih2 _ _ _ h; omega
                  · injection h with h; omega
            have := this _ _ _ _ hb
            omega
          · rintro ⟨⟨x, hx, hf⟩, _⟩
            simp at hx; subst hx
            have : at_ (e :: d) 0 = e := rfl
            rw [this, hm] at hf; cases hf
        · rw [if_neg hm]
          refine ⟨fun _ => ⟨⟨y, rfl, by show may n y e = false; simpa using hm⟩, fun j x hj => by omega⟩, fun _ => rfl⟩
      | succ k =>
        by_cases hm : may n y e = true
        · rw [if_pos hm, show i + (k + 1) = i + 1 + k by omega, ih d (i + 1) k h']
          constructor
          · rintro ⟨⟨x, hx, hf⟩, ha⟩
            refine ⟨⟨x, by simpa using hx, hf⟩, fun j z hj hz => ?_⟩
            cases j with
            | zero => simp at hz; subst hz; exact hm
            | succ j => exact ha j z (by omega) (by simpa using hz)
          · rintro ⟨⟨x, hx, hf⟩, ha⟩
            exact ⟨⟨x, by simpa using hx, hf⟩, fun j z hj hz => ha (j + 1) z (by omega) (by simpa using hz)⟩
        · rw [if_neg hm]
          constructor
          · intro hb; injection hb with hb; omega
          · rintro ⟨_, ha⟩
            exact absurd (ha 0 y (by omega) rfl) hm
theorem firstBad_ge {n : Int} {l : List Ki} {d : List Int} {i j : Nat} (h : firstBad n l d i = some j) : i ≤ j := by
  induction l generalizing d i with
  | nil => cases d <;> cases h
  | cons y r ih =>
    cases d with
    | nil => cases h
    | cons e d =>
      unfold firstBad at h
      split at h
      · have := ih h; omega
      · injection h with h; omega
end KP
end Go.Proofs.YthhibcfljekibaaDoor
