/-
  What follows from blocks that may be: ways through them, one instruction changed, one block more. No condition.
-/
import Derived.Test.YthhibcfljekibaaDoorCodePlain
namespace Go.Proofs.YthhibcfljekibaaDoor
namespace KP
/-! ### one block, all blocks -/
theorem wrong_none {n : Int} {b : Kb} {most : Int} : wrongAt n b most = none ↔ 0 ≤ b.many ∧ b.many ≤ most ∧ ∃ d, depth b.l = some d ∧ d.contains (-1) = false ∧ ∀ (k : Nat) (x : Ki), b.l[k]? = some x → may n x (at_ d k) = true := by
  unfold wrongAt
  by_cases h1 : b.many < 0
  · rw [if_pos h1]; simp; omega
  rw [if_neg h1]
  by_cases h2 : most < b.many
  · rw [if_pos h2]; simp; omega
  rw [if_neg h2]
  cases hd : depth b.l with
  | none => simp
  | some d =>
    have hl := (depth_good hd).1
    by_cases h3 : d.contains (-1) = true
    · simp only [h3, if_true]
      constructor
      · intro h; cases h
      · rintro ⟨_, _, d', e, h4, _⟩
        injection e with e; subst e
        rw [h3] at h4; cases h4
    · have h3' : d.contains (-1) = false := by simpa using h3
      simp only [h3', Bool.false_eq_true, if_false]
      rw [firstBad_none b.l d 0 hl.symm]
      constructor
      · intro h; exact ⟨by omega, by omega, d, rfl, h3', h⟩
      · rintro ⟨_, _, d', e, _, h⟩
        injection e with e; subst e
        exact h
theorem wrong_some {n : Int} {b : Kb} {most : Int} {k : Nat} (h1 : 0 ≤ b.many) (h2 : b.many ≤ most) {d : List Int} (hd : depth b.l = some d) (hc : d.contains (-1) = false) (hk : ∃ x, b.l[k]? = some x ∧ may n x (at_ d k) = false) (hb : ∀ (j : Nat) (x : Ki), j < k → b.l[j]? = some x → may n x (at_ d j) = true) : wrongAt n b most = some k := by
  unfold wrongAt
  rw [if_neg (by omega), if_neg (by omega), hd]
  simp only [hc, Bool.false_eq_true, if_false]
  have := (firstBad_some (n := n) b.l d 0 k (depth_good hd).1.symm).2 ⟨hk, hb⟩
  simpa using this
def mst (k : Nat) (most : Int) : Int := if k = 0 then most else 100
theorem checkL_ok {n : Int} : ∀ (l : List Kb) (i : Nat) (most : Int), (∀ (k : Nat) (b : Kb), l[k]? = some b → wrongAt n b (mst k most) = none) → checkL n l i most = (0, 0, 0) := by
  intro l
  induction l with
  | nil => intro i most _; rfl
  | cons b r ih =>
    intro i most h
    unfold checkL
    have h0 := h 0 b rfl
    simp only [mst, if_true] at h0
    rw [h0]
    exact ih (i + 1) 100 fun k c hc => by
      have := h (k + 1) c (by simpa using hc)
      simp only [mst, Nat.succ_ne_zero, if_false] at this ⊢
      split <;> exact this
theorem checkL_bad {n : Int} : ∀ (l : List Kb) (i : Nat) (most : Int) (k at' : Nat), (∃ b, l[k]? = some b ∧ wrongAt n b (mst k most) = some at') → (∀ (j : Nat) (b : Kb), j < k → l[j]? = some b → wrongAt n b (mst j most) = none) → checkL n l i most = (((i + k : Nat) : Int), (at' : Int), 110) := by
  intro l
  induction l with
  | nil => rintro i most k at' ⟨b, h, _⟩; simp at h
  | cons b r ih =>
    rintro i most k at' ⟨c, hc, hw⟩ hj
    unfold checkL
    cases k with
    | zero =>
      simp at hc; subst hc
      simp only [mst, if_true] at hw
      rw [hw]; rfl
    | succ k =>
      have h0 := hj 0 b (by omega) rfl
      simp only [mst, if_true] at h0
      rw [h0]
      show checkL n r (i + 1) 100 = _
      rw [ih (i + 1) 100 k at' ⟨c, by simpa using hc, by
        simp only [mst, Nat.succ_ne_zero, if_false] at hw ⊢
        split <;> exact hw⟩ fun j x h1 h2 => by
          have := hj (j + 1) x (by omega) (by simpa using h2)
          simp only [mst, Nat.succ_ne_zero, if_false] at this ⊢
          split <;> exact this]
      rw [show i + 1 + k = i + (k + 1) by omega]
/-- Either none is wrong, or one is the first. -/
theorem checkL_cases {n : Int} (l : List Kb) (most : Int) : (∀ (k : Nat) (b : Kb), l[k]? = some b → wrongAt n b (mst k most) = none) ∨ ∃ k at', (∃ b, l[k]? = some b ∧ wrongAt n b (mst k most) = some at') ∧ ∀ (j : Nat) (b : Kb), j < k → l[j]? = some b → wrongAt n b (mst j most) = none := by
  induction l generalizing most with
  | nil => left; intro k b h; simp at h
  | cons c r ih =>
    cases hc : wrongAt n c most with
    | some at' => right; exact ⟨0, at', ⟨c, rfl, by simp only [mst, if_true]; exact hc⟩, fun j b h => by omega⟩
    | none =>
      have e : ∀ j, mst (j + 1) most = mst j 100 := by intro j; simp only [mst, Nat.succ_ne_zero, if_false]; split <;> rfl
      rcases ih 100 with h | ⟨k, at', ⟨b, h1, h2⟩, h3⟩
      · left
        intro k b hb
        cases k with
        | zero => simp at hb; subst hb; simp only [mst, if_true]; exact hc
        | succ k => rw [e]; exact h k b (by simpa using hb)
      · right
        refine ⟨k + 1, at', ⟨b, by simpa using h1, by rw [e]; exact h2⟩, fun j x hj hx => ?_⟩
        cases j with
        | zero => simp at hx; subst hx; simp only [mst, if_true]; exact hc
        | succ j => rw [e]; exact h3 j x (by omega) (by simpa using hx)
theorem check_nil : check [] = (0, 0, 1) := rfl
theorem check_cons {l : List Kb} (h : l ≠ []) : check l = checkL l.length l 0 0 := by unfold check; rw [if_neg h]
theorem check_zero {l : List Kb} (h : (check l).2.2 = 0) : l ≠ [] ∧ check l = (0, 0, 0) ∧ ∀ (k : Nat) (b : Kb), l[k]? = some b → wrongAt l.length b (mst k 0) = none := by
  by_cases hn : l = []
  · subst hn; cases h
  rw [check_cons hn] at h ⊢
  rcases checkL_cases (n := l.length) l 0 with h1 | ⟨k, at', h1, h2⟩
  · exact ⟨hn, checkL_ok l 0 0 h1, h1⟩
  · rw [checkL_bad l 0 0 k at' h1 h2] at h; cases h
theorem check_not {l : List Kb} (hn : l ≠ []) (h : (check l).2.2 ≠ 0) : ∃ k at' : Nat, check l = ((k : Int), (at' : Int), 110) ∧ (∃ b, l[k]? = some b ∧ wrongAt l.length b (mst k 0) = some at') ∧ ∀ (j : Nat) (b : Kb), j < k → l[j]? = some b → wrongAt l.length b (mst j 0) = none := by
  rw [check_cons hn] at h ⊢
  rcases checkL_cases (n := l.length) l 0 with h1 | ⟨k, at', h1, h2⟩
  · rw [checkL_ok l 0 0 h1] at h; exact absurd rfl h
  · refine ⟨k, at', ?_, h1, h2⟩
    rw [checkL_bad l 0 0 k at' h1 h2, Nat.zero_add]
/-! ### ways -/
theorem whole_iff {x : Ki} : whole x = true ↔ 1 ≤ x.op ∧ x.op ≤ 16 ∧ others x = false ∧ 0 ≤ x.a ∧ 0 ≤ x.b ∧ const x.w = true := by simp [whole]
/-- Where one is in a block that may be. -/
structure Way (n : Int) (l : List Ki) (d : List Int) : Prop where
  len : d.length = l.length
  pos : 0 < l.length
  zero : at_ d 0 = 0
  nn : Nn d
  good : ∀ (k : Nat) (x : Ki), l[k]? = some x → Good d k x
  may : ∀ (k : Nat) (x : Ki), l[k]? = some x → may n x (at_ d k) = true
theorem way_of {n : Int} {b : Kb} {most : Int} (h : wrongAt n b most = none) : ∃ d, depth b.l = some d ∧ Way n b.l d := by
  obtain ⟨_, _, d, hd, hc, hm⟩ := wrong_none.1 h
  obtain ⟨h1, h2, h3, h4, h5⟩ := depth_good hd
  refine ⟨d, hd, h1, h2, h3, h4, fun k x hx => h5 k x hx ?_, hm⟩
  exact all_told hc k (by rw [h1]; exact (List.getElem?_eq_some_iff.1 hx).1)
theorem run_low : ∀ (l : List Ki) (i : Nat) {d e : List Int}, run l i d = some e → Low d → Low e := by
  intro l
  induction l with
  | nil => intro i d e h hd; injection h with h; subst h; exact hd
  | cons x r ih =>
    intro i d e h hd
    unfold run at h
    split at h
    · exact ih _ h hd
    · cases hl : lead d i x with
      | none => rw [hl] at h; cases h
      | some d' => rw [hl] at h; exact ih _ h (lead_low hl hd)
theorem depth_low {l : List Ki} {e : List Int} (h : depth l = some e) : Low e := by
  unfold depth at h
  split at h
  · cases h
  exact run_low l 0 h (start_low _)
/-- Where a step leads, and with how many words. -/
theorem way_step {n : Int} {d : List Int} {i : Nat} {x : Ki} (hg : Good d i x) (hm : may n x (at_ d i) = true) :
    (x.op = 7 ∧ i + 1 < d.length ∧ at_ d (i + 1) = at_ d i + 1) ∨ (x.op = 11 ∧ 0 ≤ x.b ∧ x.b ≤ at_ d i ∧ i + 1 < d.length ∧ at_ d (i + 1) = at_ d i - x.b) ∨ (x.op = 12 ∧ 0 ≤ x.a ∧ x.a ≤ at_ d i ∧ i + 1 < d.length ∧ at_ d (i + 1) = at_ d i - x.a) ∨
    (x.op = 8 ∧ ∃ j : Nat, x.a = j ∧ i < j ∧ j < d.length ∧ at_ d j = at_ d i) ∨ (x.op = 9 ∧ ∃ j : Nat, x.a = j ∧ i < j ∧ j < d.length ∧ at_ d j = at_ d i ∧ i + 1 < d.length ∧ at_ d (i + 1) = at_ d i) ∨
    (x.op = 13 ∧ at_ d i = x.a) ∨ ((x.op = 15 ∨ x.op = 16) ∧ at_ d i = 0) ∨ (x.op ≠ 7 ∧ x.op ≠ 11 ∧ x.op ≠ 12 ∧ x.op ≠ 8 ∧ x.op ≠ 9 ∧ x.op ≠ 13 ∧ x.op ≠ 15 ∧ x.op ≠ 16 ∧ i + 1 < d.length ∧ at_ d (i + 1) = at_ d i) := by
  have hp := hg.pos
  have hl := hg.le
  have hn := hg.next
  have one : ∀ (c : (i : Int) + 1 ∈ succs i x), i + 1 < d.length ∧ at_ d (i + 1) = at_ d i - pops x + pushes x := by
    intro c
    obtain ⟨_, h2, h3⟩ := hn _ c
    rw [show ((i : Int) + 1).toNat = i + 1 by omega] at h3
    exact ⟨by omega, h3⟩
  have fit : fits n x (at_ d i) = true := by unfold may at hm; rw [Bool.and_eq_true] at hm; exact hm.2
  by_cases c7 : x.op = 7
  · obtain ⟨h1, h2⟩ := one (by simp [succs, c7])
    left
    refine ⟨c7, h1, ?_⟩
    rw [h2]; simp [pops, pushes, c7]
  by_cases c11 : x.op = 11
  · obtain ⟨h1, h2⟩ := one (by simp [succs, c11])
    have e : pops x = x.b := by simp [pops, c11]
    have e2 : pushes x = 0 := by simp [pushes, c11]
    right; left
    rw [e] at hp hl h2
    exact ⟨c11, hp, hl, h1, by rw [h2, e2]; omega⟩
  by_cases c12 : x.op = 12
  · obtain ⟨h1, h2⟩ := one (by simp [succs, c12])
    have e : pops x = x.a := by simp [pops, c12]
    have e2 : pushes x = 0 := by simp [pushes, c12]
    right; right; left
    rw [e] at hp hl h2
    exact ⟨c12, hp, hl, h1, by rw [h2, e2]; omega⟩
  have far : ∀ (c : x.a ∈ succs i x) (e : pops x = 0) (e2 : pushes x = 0), ∃ j : Nat, x.a = j ∧ i < j ∧ j < d.length ∧ at_ d j = at_ d i := by
    intro c e e2
    obtain ⟨h1, h2, h3⟩ := hn _ c
    refine ⟨x.a.toNat, by omega, by omega, by omega, ?_⟩
    rw [h3, e, e2]; omega
  by_cases c8 : x.op = 8
  · right; right; right; left
    exact ⟨c8, far (by simp [succs, c8]) (by simp [pops, c8]) (by simp [pushes, c8])⟩
  by_cases c9 : x.op = 9
  · right; right; right; right; left
    obtain ⟨j, j1, j2, j3, j4⟩ := far (by simp [succs, c9]) (by simp [pops, c9]) (by simp [pushes, c9])
    obtain ⟨h1, h2⟩ := one (by simp [succs, c9])
    refine ⟨c9, j, j1, j2, j3, j4, h1, ?_⟩
    rw [h2]; simp [pops, pushes, c9]
  by_cases c13 : x.op = 13
  · right; right; right; right; right; left
    refine ⟨c13, ?_⟩
    unfold fits at fit
    rw [if_neg (by omega), if_neg (by omega), if_pos (.inl c13)] at fit
    have e : pops x = x.a := by simp [pops, c13]
    rw [e] at fit
    simpa using fit
  by_cases c15 : x.op = 15 ∨ x.op = 16
  · right; right; right; right; right; right; left
    refine ⟨c15, ?_⟩
    unfold fits at fit
    rw [if_neg (by omega), if_neg (by omega), if_pos (.inr c15)] at fit
    have e : pops x = 0 := by unfold pops; rw [if_neg (by omega), if_neg (by omega)]
    rw [e] at fit
    simpa using fit
  · right; right; right; right; right; right; right
    obtain ⟨h1, h2⟩ := one (by unfold succs; rw [if_neg c8, if_neg c9, if_neg (by omega)]; simp)
    refine ⟨c7, c11, c12, c8, c9, c13, fun h => c15 (.inl h), fun h => c15 (.inr h), h1, ?_⟩
    have e : pops x = 0 := by unfold pops; rw [if_neg (by omega), if_neg (by omega)]
    have e2 : pushes x = 0 := by unfold pushes; rw [if_neg c7]
    rw [h2, e, e2]; omega
/-! ### one instruction changed -/
structure Alike (x y : Ki) : Prop where
  pops : pops x = pops y
  pushes : pushes x = pushes y
  succs : ∀ i, succs i x = succs i y
theorem run_alike : ∀ (l m : List Ki) (i : Nat) (d : List Int), l.length = m.length → (∀ (k : Nat) (x y : Ki), l[k]? = some x → m[k]? = some y → Alike x y) → run l i d = run m i d := by
  intro l
  induction l with
  | nil =>
    intro m i d h _
    cases m with
    | nil => rfl
    | cons y m => simp at h
  | cons x l ih =>
    intro m i d h hs
    cases m with
    | nil => simp at h
    | cons y m =>
      have a := hs 0 x y rfl rfl
      have hl : lead d i x = lead d i y := by unfold lead; rw [a.pops, a.pushes, a.succs]
      have h' : ∀ i d, run l i d = run m i d := fun i d => ih m i d (by simpa using h) fun k u v hu hv => hs (k + 1) u v (by simpa using hu) (by simpa using hv)
      unfold run
      rw [hl, h']
      cases lead d i y with
      | none => rfl
      | some d' => simp only [h']
theorem depth_alike {l m : List Ki} (h : l.length = m.length) (hs : ∀ (k : Nat) (x y : Ki), l[k]? = some x → m[k]? = some y → Alike x y) : depth l = depth m := by
  unfold depth
  have : l = [] ↔ m = [] := by rw [← List.length_eq_zero_iff, ← List.length_eq_zero_iff, h]
  by_cases h0 : l = []
  · rw [if_pos h0, if_pos (this.1 h0)]
  · rw [if_neg h0, if_neg (fun h1 => h0 (this.2 h1)), h]
    exact run_alike l m 0 _ h hs
/-- What CodeChanged turns an instruction into. -/
def change (how : Int) (x : Ki) : Ki :=
  if how % 3 = 0 then (if x.op = 1 then { x with b := 1 } else { x with w := 8 })
  else if how % 3 = 1 then (if x.op = 11 then { x with w := 1 } else if x.op = 2 ∨ x.op = 4 then { x with b := -1 } else { x with b := 1 })
  else { x with w := 17 }
theorem alike_w (x : Ki) (v : Int) : Alike { x with w := v } x := ⟨rfl, rfl, fun _ => rfl⟩
theorem alike_b (x : Ki) (v : Int) (h : x.op ≠ 11) : Alike { x with b := v } x := ⟨by unfold pops; simp only [if_neg h], rfl, fun _ => rfl⟩
theorem change_alike (how : Int) (x : Ki) : Alike (change how x) x := by
  unfold change
  split
  · split
    · exact alike_b x _ (by omega)
    · exact alike_w x _
  · split
    · split
      · exact alike_w x _
      · split
        · exact alike_b x _ (by omega)
        · exact alike_b x _ (by assumption)
    · exact alike_w x _
theorem own_cases (op : Int) (h1 : 1 ≤ op) (h2 : op ≤ 16) : (own op).contains 2 = decide (op = 1) ∧ (own op).contains 1 = decide (op = 2 ∨ op = 4 ∨ op = 11) := by
  obtain ⟨k, rfl⟩ : ∃ k : Nat, op = k := ⟨op.toNat, by omega⟩
  have hk : k < 17 := by omega
  have : ∀ j : Nat, j < 17 → 1 ≤ j → (own (j : Int)).contains 2 = decide ((j : Int) = 1) ∧ (own (j : Int)).contains 1 = decide ((j : Int) = 2 ∨ (j : Int) = 4 ∨ (j : Int) = 11) := by decide
  exact this k hk (by omega)
theorem others_w {x : Ki} (h1 : 1 ≤ x.op) (h2 : x.op ≤ 16) (h : x.op ≠ 1) (hw : x.w ≠ 0) : others x = true := by
  have := (own_cases x.op h1 h2).1
  unfold others other
  rw [this]
  simp [h, fld, hw]
theorem others_b {x : Ki} (h1 : 1 ≤ x.op) (h2 : x.op ≤ 16) (h : ¬ (x.op = 2 ∨ x.op = 4 ∨ x.op = 11)) (hw : x.b ≠ 0) : others x = true := by
  have := (own_cases x.op h1 h2).2
  unfold others other
  rw [this]
  simp [h, fld, hw]
theorem change_bad (how : Int) {x : Ki} (h : whole x = true) : whole (change how x) = false := by
  obtain ⟨h1, h2, h3, h4, h5, h6⟩ := whole_iff.1 h
  rw [← Bool.not_eq_true, whole_iff]
  rintro ⟨g1, g2, g3, g4, g5, g6⟩
  unfold change at *
  by_cases c0 : how % 3 = 0
  · simp only [if_pos c0] at *
    by_cases c1 : x.op = 1
    · simp only [if_pos c1] at *
      rw [others_b (by simpa using h1) (by simpa using h2) (by simp only; omega) (by simp)] at g3; cases g3
    · simp only [if_neg c1] at *
      rw [others_w (by simpa using h1) (by simpa using h2) (by simpa using c1) (by simp)] at g3; cases g3
  · simp only [if_neg c0] at *
    by_cases c2 : how % 3 = 1
    · simp only [if_pos c2] at *
      by_cases c1 : x.op = 11
      · simp only [if_pos c1] at *
        rw [others_w (by simpa using h1) (by simpa using h2) (by simp only; omega) (by simp)] at g3; cases g3
      · simp only [if_neg c1] at *
        by_cases c3 : x.op = 2 ∨ x.op = 4
        · simp only [if_pos c3] at *
          simp at g5
        · simp only [if_neg c3] at *
          rw [others_b (by simpa using h1) (by simpa using h2) (by simp only; omega) (by simp)] at g3; cases g3
    · simp only [if_neg c2] at *
      have : const 17 = false := by decide
      rw [this] at g6; cases g6
theorem changed {l : List Kb} (h : (check l).2.2 = 0) {k j : Nat} {b : Kb} {x : Ki} (hb : l[k]? = some b) (hx : b.l[j]? = some x) (how : Int) : check (l.set k { b with l := b.l.set j (change how x) }) = ((k : Int), (j : Int), 110) := by
  obtain ⟨hn, _, ha⟩ := check_zero h
  have hkl := (List.getElem?_eq_some_iff.1 hb).1
  have hjl := (List.getElem?_eq_some_iff.1 hx).1
  rw [check_cons (by intro h0; apply hn; rw [← List.length_eq_zero_iff] at h0 ⊢; simpa using h0), List.length_set]
  have key := checkL_bad (n := l.length) (l.set k { b with l := b.l.set j (change how x) }) 0 0 k j ⟨_, List.getElem?_set_self hkl, ?_⟩ ?_
  · rw [key, Nat.zero_add]
  · obtain ⟨m1, m2, d, hd, hc, hm⟩ := wrong_none.1 (ha k b hb)
    have hd' : depth (b.l.set j (change how x)) = some d := by
      rw [depth_alike (m := b.l) (by simp), hd]
      intro i u v hu hv
      by_cases hij : j = i
      · subst hij
        rw [List.getElem?_set_self hjl] at hu
        rw [hx] at hv
        injection hu with hu; injection hv with hv
        subst hu; subst hv
        exact change_alike how x
      · rw [List.getElem?_set_ne hij, hv] at hu
        injection hu with hu; subst hu
        exact ⟨rfl, rfl, fun _ => rfl⟩
    refine wrong_some m1 m2 hd' hc ⟨_, List.getElem?_set_self hjl, ?_⟩ fun i y hi hy => ?_
    · have := hm j x hx
      unfold may at this ⊢
      rw [change_bad how (by rw [Bool.and_eq_true] at this; exact this.1)]; rfl
    · rw [List.getElem?_set_ne (by omega)] at hy
      exact hm i y hy
  · intro i c hi hc
    rw [List.getElem?_set_ne (by omega)] at hc
    exact ha i c hc
/-! ### one block more -/
theorem may_more {n : Int} {x : Ki} {d : Int} (h : may n x d = true) : may (n + 1) x d = true := by
  unfold may at *
  rw [Bool.and_eq_true] at *
  refine ⟨h.1, ?_⟩
  have h2 := h.2
  unfold fits at *
  split at h2
  · rename_i c
    rw [if_pos c]
    simp at h2 ⊢; omega
  · rename_i c
    rw [if_neg c]; exact h2
theorem may_only {n : Int} {x : Ki} {d : Int} (h : may n x d = false) (g : may (n + 1) x d = true) : x.op = 10 ∧ x.a = n := by
  unfold may at *
  rw [Bool.and_eq_true] at g
  rw [g.1, Bool.true_and] at h
  have g2 := g.2
  unfold fits at *
  by_cases c : x.op = 10
  · rw [if_pos c] at h g2
    simp at h g2
    exact ⟨c, by omega⟩
  · rw [if_neg c] at h g2
    rw [h] at g2; cases g2
theorem wrong_more {n : Int} {b : Kb} {m m' : Int} (hm : m ≤ m') (h : wrongAt n b m = none) : wrongAt (n + 1) b m' = none := by
  obtain ⟨h1, h2, d, hd, hc, ha⟩ := wrong_none.1 h
  exact wrong_none.2 ⟨h1, by omega, d, hd, hc, fun k x hx => may_more (ha k x hx)⟩
/-- Is it wrong just because it names the block behind the last one? -/
def Beyond (l : List Kb) (k at' : Nat) : Prop := ∃ b x, l[k]? = some b ∧ b.l[at']? = some x ∧ x.op = 10 ∧ x.a = l.length
theorem wrong_stays {n : Int} {b : Kb} {m : Int} {at' : Nat} (h : wrongAt n b m = some at') : wrongAt (n + 1) b m = some at' ∨ ∃ x, b.l[at']? = some x ∧ x.op = 10 ∧ x.a = n := by
  unfold wrongAt at h ⊢
  by_cases h1 : b.many < 0
  · rw [if_pos h1] at h ⊢; exact .inl h
  rw [if_neg h1] at h ⊢
  by_cases h2 : m < b.many
  · rw [if_pos h2] at h ⊢; exact .inl h
  rw [if_neg h2] at h ⊢
  cases hd : depth b.l with
  | none => rw [hd] at h; exact .inl h
  | some d =>
    rw [hd] at h
    simp only at h ⊢
    by_cases h3 : d.contains (-1) = true
    · rw [if_pos h3] at h ⊢; exact .inl h
    rw [if_neg h3] at h ⊢
    have hl := (depth_good hd).1.symm
    rw [show at' = 0 + at' from (Nat.zero_add _).symm, firstBad_some b.l d 0 at' hl] at h
    obtain ⟨⟨x, hx, hf⟩, ha⟩ := h
    cases hg : may (n + 1) x (at_ d at') with
    | true => exact .inr ⟨x, hx, may_only hf hg⟩
    | false =>
      left
      rw [show at' = 0 + at' from (Nat.zero_add _).symm, firstBad_some b.l d 0 at' hl]
      exact ⟨⟨x, hx, hg⟩, fun j y hj hy => may_more (ha j y hj hy)⟩
theorem more_ok {l : List Kb} (h : (check l).2.2 = 0) {k : Nat} {b : Kb} (hb : l[k]? = some b) : check (l ++ [b]) = (0, 0, 0) := by
  obtain ⟨hn, _, ha⟩ := check_zero h
  rw [check_cons (by simp), List.length_append, List.length_singleton]
  refine checkL_ok _ 0 0 fun i c hc => ?_
  rw [Int.natCast_add, Int.natCast_one]
  by_cases hi : i < l.length
  · rw [List.getElem?_append_left hi] at hc
    exact wrong_more (Int.le_refl _) (ha i c hc)
  · have : i = l.length := by have := (List.getElem?_eq_some_iff.1 hc).1; simp at this; omega
    subst this
    rw [List.getElem?_append_right (Nat.le_refl _)] at hc
    simp at hc; subst hc
    have h0 : 0 < l.length := List.length_pos_iff.2 hn
    refine wrong_more ?_ (ha k b hb)
    unfold mst
    rw [if_neg (show ¬ l.length = 0 by omega)]
    split <;> omega
/-- The first that is wrong is so with a block more, or it names that one. -/
theorem more_bad {l : List Kb} (hn : l ≠ []) {k at' : Nat} (h : check l = ((k : Int), (at' : Int), 110)) (b : Kb) : check (l ++ [b]) = ((k : Int), (at' : Int), 110) ∨ Beyond l k at' := by
  obtain ⟨k', a', e, ⟨c, hc, hw⟩, hj⟩ := check_not hn (by rw [h]; simp)
  rw [h] at e
  injection e with e1 e2
  injection e2 with e2 _
  have e1 : k = k' := by omega
  have e2 : at' = a' := by omega
  subst e1; subst e2
  rcases wrong_stays hw with h1 | ⟨x, h1, h2, h3⟩
  · left
    rw [check_cons (by simp), List.length_append, List.length_singleton]
    have hkl := (List.getElem?_eq_some_iff.1 hc).1
    have key := checkL_bad (n := ((l.length + 1 : Nat) : Int)) (l ++ [b]) 0 0 k at' ⟨c, by rw [List.getElem?_append_left hkl]; exact hc, by rw [Int.natCast_add, Int.natCast_one]; exact h1⟩ fun j y hjk hy => by
      rw [List.getElem?_append_left (by omega)] at hy
      rw [Int.natCast_add, Int.natCast_one]
      exact wrong_more (Int.le_refl _) (hj j y hjk hy)
    rw [key, Nat.zero_add]
  · exact .inr ⟨c, x, hc, h1, h2, h3⟩
end KP
end Go.Proofs.YthhibcfljekibaaDoor
