/-
  A map of texts to numbers that holds just a row's names with their places; and the numbers that were seen. No condition.
-/
import Derived.Test.YteochpfdongcaaaNamesSet
namespace Go.Proofs.Yteochpfdongcaaa
open Go.Maps Go.WideShapes
namespace NP
structure HasI (D : DataW Unit) (L : List ByteArray) : Prop where
  tidy : Tidy D
  tab : Tab D (num L)
  size : Maps.size D = L.length
theorem HasI.none_ : HasI (.map []) [] := ⟨tidy_empty, Tab.none_.congr (fun s => by simp [num]), rfl⟩
theorem HasI.put {D : DataW Unit} {L : List ByteArray} (h : HasI D L) (s : ByteArray) (hf : fits s) (hn : L.length < 4096) : HasI (D.put (key s) (.lit (.int .i64 (putI L s)))) (putL L s) := by
  rw [putL_yes hf hn]
  by_cases hs : s ∈ L
  · have e : putI L s = (L.idxOf s : Nat) := by simp [putI, hf, hs]
    rw [if_pos hs, e]
    refine ⟨h.tidy.put (key_is s) _, (h.tab.put s _).congr (fun x => ?_), ?_⟩
    · by_cases e : x = s
      · subst e; simp [num, hs]
      · simp [e]
    · rw [size_put h.tidy, h.tab.has, h.size]; simp [num, hs]
  · have e : putI L s = (L.length : Nat) := by simp [putI, hf, hs, hn]
    rw [if_neg hs, e]
    refine ⟨h.tidy.put (key_is s) _, (h.tab.put s _).congr (fun x => num_snoc L s hs x), ?_⟩
    rw [size_put h.tidy, h.tab.has, h.size]; simp [num, hs]
/-- What stands in the map at a key: a name of the row, and its place. -/
theorem HasI.entry {D : DataW Unit} {L : List ByteArray} (h : HasI D L) (x : ByteArray) (c : Int) (hat : ∀ zd, D.atKey (key x) zd = .lit (.int .i64 c)) : x ∈ L ∧ (L.idxOf x : Int) = c := by
  have h1 := h.tab.has x
  rw [has_true_of_atKey hat] at h1
  have hx : x ∈ L := by
    unfold num at h1
    by_cases hx : x ∈ L
    · exact hx
    · simp [hx] at h1
  have h2 := h.tab.at_ x
  rw [hat] at h2
  refine ⟨hx, ?_⟩
  have e : c = (num L x).getD 0 := by injection h2 with h3; injection h3
  rw [e]; simp [num, hx]
/-- The numbers of those names that are no longer to come. -/
def Gone (L : List ByteArray) (left : Lit → Bool) (i : Int) : Prop := ∃ s, s ∈ L ∧ left (key s) = false ∧ (L.idxOf s : Int) = i
open Classical in
structure Nums (D : DataW Unit) (L : List ByteArray) (left : Lit → Bool) : Prop where
  isMap : IsMap D
  at_ : ∀ i : Int, D.atKey (.int .i64 i) (.lit (.bool false)) = .lit (.bool (decide (Gone L left i)))
theorem Nums.start {D : DataW Unit} {L : List ByteArray} (h : HasI D L) : Nums (.map []) L (Maps.has D) := by
  classical
  refine ⟨isMap_empty, fun i => ?_⟩
  have : ¬ Gone L (Maps.has D) i := by
    rintro ⟨s, hs, h1, _⟩
    rw [h.tab.has] at h1
    simp [num, hs] at h1
  simp only [this, decide_false]
  rfl
theorem same_place {L : List ByteArray} {s x : ByteArray} (hs : s ∈ L) (hx : x ∈ L) (e : (L.idxOf s : Int) = (L.idxOf x : Int)) : s = x := by
  have e := Int.ofNat.inj e
  have g1 := List.getElem_idxOf (List.idxOf_lt_length_iff.2 hs)
  have g2 := List.getElem_idxOf (List.idxOf_lt_length_iff.2 hx)
  exact g1.symm.trans ((getElem_congr_idx e).trans g2)
theorem Nums.fresh {D : DataW Unit} {L : List ByteArray} {left : Lit → Bool} (h : Nums D L left) {x : ByteArray} (hx : x ∈ L) (hl : left (key x) = true) : D.atKey (.int .i64 (L.idxOf x : Int)) (.lit (.bool false)) = .lit (.bool false) := by
  classical
  have : ¬ Gone L left (L.idxOf x : Int) := by
    rintro ⟨s, hs, h1, h2⟩
    obtain rfl := same_place hs hx h2
    rw [hl] at h1; cases h1
  have h2 := h.at_ (L.idxOf x : Int)
  rw [h2]
  simp only [this, decide_false]
theorem int_inj {a b : Int} (h : (Lit.int .i64 a) = .int .i64 b) : a = b := by injection h
theorem Nums.step {D : DataW Unit} {L : List ByteArray} {left : Lit → Bool} (h : Nums D L left) {x : ByteArray} (hx : x ∈ L) : Nums (D.put (.int .i64 (L.idxOf x : Int)) (.lit (.bool true))) L (fun z => left z && !z.sameKey (key x)) := by
  classical
  refine ⟨h.isMap.put _ _, fun i => ?_⟩
  have hg : Gone L (fun z => left z && !z.sameKey (key x)) i ↔ (i = (L.idxOf x : Int) ∨ Gone L left i) := by
    constructor
    · rintro ⟨s, hs, h1, h2⟩
      by_cases e : s = x
      · subst e; exact .inl h2.symm
      · right
        refine ⟨s, hs, ?_, h2⟩
        have : (key s).sameKey (key x) = false := sameKey_ne (fun e' => e (key_inj e'))
        simpa [this] using h1
    · rintro (rfl | ⟨s, hs, h1, h2⟩)
      · exact ⟨x, hx, by simp [WideAt.sameKey_self (key_is x)], rfl⟩
      · exact ⟨s, hs, by simp [h1], h2⟩
  by_cases e : i = (L.idxOf x : Int)
  · subst e
    rw [atKey_put_same h.isMap (k := .int .i64 (L.idxOf x : Int)) trivial]
    have : Gone L (fun z => left z && !z.sameKey (key x)) (L.idxOf x : Int) := hg.2 (.inl rfl)
    simp only [this, decide_true]
  · rw [atKey_put_other (fun e' => e (int_inj e')), h.at_]
    have : Gone L (fun z => left z && !z.sameKey (key x)) i ↔ Gone L left i := by rw [hg]; simp [e]
    simp only [this]
end NP
end Go.Proofs.Yteochpfdongcaaa
