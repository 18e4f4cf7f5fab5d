/-
  Rows of jumps, in plain words: each goes on, or none may be. No condition.
-/
import Derived.Test.YthhibcfljekibaaDoorCodePush
namespace Go.Proofs.YthhibcfljekibaaDoor
namespace KP
def wF : Ki := ⟨1, 0, 0, 10⟩
def jn (t : Int) : Ki := ⟨9, t, 0, 0⟩
def jumps (ts : List Int) : List Ki := ts.map jn
/-- Does each go on, and not out? -/
def onward (n : Nat) : Nat → List Int → Bool
  | _, [] => true
  | i, t :: r => (decide ((i : Int) < t) && decide (t < (n : Int))) && onward n (i + 1) r
/-- Told up to i; beyond it nothing but 0 is told. -/
structure Zer (n i : Nat) (d : List Int) : Prop where
  len : d.length = n
  low : ∀ j, j ≤ i → at_ d j = 0
  all : ∀ j, at_ d j = 0 ∨ at_ d j = -1
theorem zer_set {n i : Nat} {d : List Int} (h : Zer n i d) (k : Nat) : Zer n i (d.set k 0) := by
  refine ⟨by simp [h.len], fun j hj => ?_, fun j => ?_⟩
  · rw [at_set]
    split
    · rfl
    · exact h.low j hj
  · rw [at_set]
    split
    · exact .inl rfl
    · exact h.all j
theorem jump_run (n : Nat) : ∀ (ts : List Int) (i : Nat) (d : List Int), Zer n i d → i + ts.length + 1 = n → (onward n i ts = true → ∃ e, run (jumps ts ++ [rt]) i d = some e ∧ Zer n (n - 1) e) ∧ (onward n i ts = false → run (jumps ts ++ [rt]) i d = none) := by
  intro ts
  induction ts with
  | nil =>
    intro i d h hn
    refine ⟨fun _ => ⟨d, ?_, ?_⟩, fun h => by cases h⟩
    · show run [rt] i d = _
      rw [run_cons, h.low i (Nat.le_refl _), if_neg (by omega)]
      unfold lead
      have h1 : pops rt = 0 := rfl
      have h2 : succs (i : Int) rt = [] := rfl
      rw [h1, h2, h.low i (Nat.le_refl _), if_neg (by omega), if_neg (by omega)]
      rfl
    · simp at hn
      have : n - 1 = i := by omega
      rw [this]; exact h
  | cons t r ih =>
    intro i d h hn
    rw [List.length_cons] at hn
    have hlead : lead d i (jn t) = marks d i 0 [(i : Int) + 1, t] := by
      unfold lead
      have h1 : pops (jn t) = 0 := rfl
      have h2 : succs (i : Int) (jn t) = [(i : Int) + 1, t] := rfl
      have h3 : pushes (jn t) = 0 := rfl
      rw [h1, h2, h3, h.low i (Nat.le_refl _), if_neg (by omega), if_neg (by omega)]
      rfl
    have hrun : run (jumps (t :: r) ++ [rt]) i d = match lead d i (jn t) with
        | none => none
        | some d' => run (jumps r ++ [rt]) (i + 1) d' := by
      show run (jn t :: (jumps r ++ [rt])) i d = _
      rw [run_cons, h.low i (Nat.le_refl _), if_neg (by omega)]
      rfl
    have hm1 : KP.mark d i 0 ((i : Int) + 1) = some (d.set (i + 1) 0) := by
      unfold KP.mark
      rw [if_neg (by omega), if_neg (by rw [h.len]; omega), show ((i : Int) + 1).toNat = i + 1 by omega, if_neg (by rcases h.all (i + 1) with e | e <;> rw [e] <;> simp)]
    have hz1 := zer_set h (i + 1)
    have hz1' : Zer n (i + 1) (d.set (i + 1) 0) := ⟨hz1.len, fun j hj => by
      by_cases e : j = i + 1
      · subst e; rw [at_set, if_pos ⟨rfl, by rw [h.len]; omega⟩]
      · exact hz1.low j (by omega), hz1.all⟩
    rw [hrun, hlead]
    unfold marks
    rw [hm1]
    simp only
    unfold marks
    by_cases c1 : (i : Int) < t
    · by_cases c2 : t < (n : Int)
      · have hm2 : KP.mark (d.set (i + 1) 0) i 0 t = some ((d.set (i + 1) 0).set t.toNat 0) := by
          unfold KP.mark
          rw [if_neg (by omega), if_neg (by rw [hz1.len]; omega), if_neg (by rcases hz1.all t.toNat with e | e <;> rw [e] <;> simp)]
        rw [hm2]
        simp only
        unfold marks
        simp only
        have ho : onward n i (t :: r) = onward n (i + 1) r := by
          show ((decide ((i : Int) < t) && decide (t < (n : Int))) && onward n (i + 1) r) = _
          rw [decide_eq_true c1, decide_eq_true c2]; rfl
        rw [ho]
        exact ih (i + 1) _ (zer_set hz1' t.toNat) (by omega)
      · have hm2 : KP.mark (d.set (i + 1) 0) i 0 t = none := by
          unfold KP.mark
          rw [if_neg (by omega), if_pos (by rw [hz1.len]; omega)]
        rw [hm2]
        simp only
        have ho : onward n i (t :: r) = false := by
          show ((decide ((i : Int) < t) && decide (t < (n : Int))) && onward n (i + 1) r) = _
          rw [decide_eq_false c2, Bool.and_false]; rfl
        rw [ho]
        exact ⟨(fun h => by cases h), fun _ => by first | rfl | trivial⟩
    · have hm2 : KP.mark (d.set (i + 1) 0) i 0 t = none := by
        unfold KP.mark
        rw [if_pos (by omega)]
      rw [hm2]
      simp only
      have ho : onward n i (t :: r) = false := by
        show ((decide ((i : Int) < t) && decide (t < (n : Int))) && onward n (i + 1) r) = _
        rw [decide_eq_false c1]; rfl
      rw [ho]
      exact ⟨(fun h => by cases h), fun _ => by first | rfl | trivial⟩
def jprog (ts : List Int) : List Ki := (wF :: jumps ts) ++ [rt]
theorem jprog_len (ts : List Int) : (jprog ts).length = ts.length + 2 := by simp [jprog, jumps]
theorem jump_depth (ts : List Int) : (onward (ts.length + 2) 1 ts = true → ∃ e, depth (jprog ts) = some e ∧ e.length = ts.length + 2 ∧ ∀ j, j < ts.length + 2 → at_ e j = 0) ∧ (onward (ts.length + 2) 1 ts = false → depth (jprog ts) = none) := by
  have hz : Zer (ts.length + 2) 1 ((start (ts.length + 2)).set 1 0) := by
    have ha : ∀ j, at_ (start (ts.length + 2)) j = 0 ∨ at_ (start (ts.length + 2)) j = -1 := by
      intro j
      unfold start
      rw [at_set]
      split
      · exact .inl rfl
      · right
        unfold at_
        simp only [List.getD, List.getElem?_replicate]
        split <;> simp
    refine ⟨by simp [start_len], fun j hj => ?_, fun j => ?_⟩
    · rw [at_set]
      split
      · rfl
      · have : j = 0 := by
          rename_i h
          by_cases e : j = 1
          · exact absurd ⟨e, by rw [start_len]; omega⟩ h
          · omega
        subst this
        unfold start
        rw [at_set, if_pos ⟨rfl, by simp⟩]
    · rw [at_set]
      split
      · exact .inl rfl
      · exact ha j
  have hd : depth (jprog ts) = run (jumps ts ++ [rt]) 1 ((start (ts.length + 2)).set 1 0) := by
    rw [depth_ne (by simp [jprog]), jprog_len]
    show run (wF :: (jumps ts ++ [rt])) 0 _ = _
    have h0 : at_ (start (ts.length + 2)) 0 = 0 := by
      unfold start
      rw [at_set, if_pos ⟨rfl, by simp⟩]
    rw [run_cons, h0, if_neg (by omega)]
    have hl : lead (start (ts.length + 2)) 0 wF = some ((start (ts.length + 2)).set 1 0) := by
      unfold lead
      have h1 : pops wF = 0 := rfl
      have h2 : succs ((0 : Nat) : Int) wF = [((0 : Nat) : Int) + 1] := rfl
      have h3 : pushes wF = 0 := rfl
      rw [h1, h2, h3, h0, if_neg (by omega), if_neg (by omega)]
      unfold marks KP.mark
      have h4 : at_ (start (ts.length + 2)) 1 = -1 := by
        unfold start
        rw [at_set, if_neg (by omega)]
        unfold at_
        simp only [List.getD, List.getElem?_replicate]
        split <;> simp
      rw [if_neg (by omega), if_neg (by rw [start_len]; omega), show (((0 : Nat) : Int) + 1).toNat = 1 by omega, if_neg (by rw [h4]; simp)]
      rfl
    rw [hl]
  rw [hd]
  obtain ⟨h1, h2⟩ := jump_run (ts.length + 2) ts 1 _ hz (by omega)
  refine ⟨fun h => ?_, h2⟩
  obtain ⟨e, he, hze⟩ := h1 h
  exact ⟨e, he, hze.len, fun j hj => hze.low j (by omega)⟩
theorem whole_jn (t : Nat) : whole (jn t) = true := by
  rw [whole_iff]
  refine ⟨by show (1 : Int) ≤ 9; decide, by show (9 : Int) ≤ 16; decide, ?_, by show (0 : Int) ≤ (t : Int); omega, by show (0 : Int) ≤ 0; decide, by show const 0 = true; decide⟩
  unfold others other
  have e0 : (own (jn (t : Int)).op).contains 0 = true := by show (own 9).contains 0 = true; decide
  rw [e0]
  rfl
theorem jump_check (ts : List Nat) : check [⟨0, jprog (ts.map fun t : Nat => (t : Int))⟩] = (0, 0, if onward (ts.length + 2) 1 (ts.map fun t : Nat => (t : Int)) then 0 else 110) := by
  rw [one_check]
  have hj := jump_depth (ts.map fun t : Nat => (t : Int))
  rw [List.length_map] at hj
  obtain ⟨h1, h2⟩ := hj
  cases ho : onward (ts.length + 2) 1 (ts.map fun t : Nat => (t : Int)) with
  | true =>
    obtain ⟨e, hd, hl, hz⟩ := h1 ho
    have hpl : (jprog (ts.map fun t : Nat => (t : Int))).length = ts.length + 2 := by rw [jprog_len, List.length_map]
    have hc : e.contains (-1) = false := by
      rw [← Bool.not_eq_true, List.contains_iff_mem]
      intro hm
      obtain ⟨j, hj, e2⟩ := List.getElem_of_mem hm
      have := hz j (by omega)
      unfold at_ at this
      rw [List.getD_eq_getElem?_getD, List.getElem?_eq_getElem hj, Option.getD_some, e2] at this
      cases this
    have hmy : ∀ (k : Nat) (x : Ki), (jprog (ts.map fun t : Nat => (t : Int)))[k]? = some x → may 1 x (at_ e k) = true := by
      intro k x hx
      have hk := (List.getElem?_eq_some_iff.1 hx).1
      rw [hz k (by rw [← hpl]; exact hk)]
      have hm := List.mem_of_getElem? hx
      simp only [jprog, jumps, List.mem_append, List.mem_cons, List.mem_map, List.map_map, List.not_mem_nil, or_false] at hm
      rcases hm with (rfl | ⟨t, _, rfl⟩) | rfl
      · have : whole wF = true := by decide
        unfold may; rw [this]; rfl
      · unfold may
        show (whole (jn (t : Int)) && _) = true
        rw [whole_jn]; rfl
      · have : whole rt = true := by decide
        unfold may; rw [this]; rfl
    have hn : wrongAt 1 ⟨0, jprog (ts.map fun t : Nat => (t : Int))⟩ 0 = none := wrong_none.2 ⟨Int.le_refl 0, Int.le_refl 0, e, hd, hc, hmy⟩
    rw [hn]; rfl
  | false =>
    have hd := h2 ho
    have hn : wrongAt 1 ⟨0, jprog (ts.map fun t : Nat => (t : Int))⟩ 0 = some 0 := by
      unfold wrongAt
      rw [if_neg (Int.lt_irrefl 0), if_neg (Int.lt_irrefl 0), hd]
    rw [hn]; rfl
theorem onward_snoc (n : Nat) (t : Int) : ∀ (r : List Int) (i : Nat), onward n i (r ++ [t]) = (onward n i r && (decide (((i + r.length : Nat) : Int) < t) && decide (t < (n : Int)))) := by
  intro r
  induction r with
  | nil => intro i; simp [onward]
  | cons x r ih =>
    intro i
    show ((decide ((i : Int) < x) && decide (x < (n : Int))) && onward n (i + 1) (r ++ [t])) = (((decide ((i : Int) < x) && decide (x < (n : Int))) && onward n (i + 1) r) && _)
    rw [ih, List.length_cons, show i + 1 + r.length = i + (r.length + 1) by omega, Bool.and_assoc, Bool.and_assoc, Bool.and_assoc]
end KP
end Go.Proofs.YthhibcfljekibaaDoor
