/-
  Rows of instructions and of blocks that a law makes itself. No condition.
-/
import Derived.Test.YthhibcfljekibaaDoorCodeArg
namespace Go.Proofs.YthhibcfljekibaaDoor
open Go.RowKit
set_option linter.unusedVariables false
namespace KW
open KP
def flatI (l : List Ki) : List Value := l.flatMap cel
theorem flatI_len (l : List Ki) : (flatI l).length = l.length * 4 := by
  induction l with
  | nil => rfl
  | cons t l ih => simp [flatI, cel] at ih ⊢; omega
theorem flatI_at : ∀ (l : List Ki) (i : Nat) (x : Ki), l[i]? = some x → ∀ (j : Nat) (u : Value), (cel x)[j]? = some u → (flatI l)[i * 4 + j]? = some u := by
  intro l
  induction l with
  | nil => intro i x h; simp at h
  | cons y l ih =>
    intro i x h j u hu
    unfold flatI
    rw [List.flatMap_cons]
    have hj : j < 4 := by have := (List.getElem?_eq_some_iff.1 hu).1; simpa [cel] using this
    cases i with
    | zero =>
      simp at h; subst h
      rw [Nat.zero_mul, Nat.zero_add, List.getElem?_append_left (by simp [cel]; omega)]
      exact hu
    | succ i =>
      rw [List.getElem?_append_right (by simp [cel]; omega), show (i + 1) * 4 + j - (cel y).length = i * 4 + j by simp [cel]; omega]
      exact ih i x (by simpa using h) j u hu
theorem flatI_set : ∀ (l : List Ki) (i : Nat) (x y : Ki) (f : Nat) (u : Value), l[i]? = some x → f < 4 → (cel x).set f u = cel y → (flatI l).set (i * 4 + f) u = flatI (l.set i y) := by
  intro l
  induction l with
  | nil => intro i x y f u h; simp at h
  | cons z l ih =>
    intro i x y f u h hf he
    unfold flatI
    rw [List.flatMap_cons]
    cases i with
    | zero =>
      simp at h; subst h
      rw [Nat.zero_mul, Nat.zero_add, List.set_append_left _ _ (by simp [cel]; omega), he]
      rfl
    | succ i =>
      rw [List.set_append_right _ _ (by simp [cel]; omega), show (i + 1) * 4 + f - (cel z).length = i * 4 + f by simp [cel]; omega]
      have := ih i x y f u (by simpa using h) hf he
      unfold flatI at this
      rw [this]
      rfl
theorem flatI_snoc (l : List Ki) (x : Ki) : flatI (l ++ [x]) = flatI l ++ cel x := by simp [flatI]
theorem flatB_set : ∀ (bs : List Bq) (i : Nat) (t t' : Bq) (u : Value), bs[i]? = some t → t'.many = t.many → u = .slice t'.A t'.l t'.c → (flatB bs).set (i * 2 + 1) u = flatB (bs.set i t') := by
  intro bs
  induction bs with
  | nil => intro i t t' u h; simp at h
  | cons z l ih =>
    intro i t t' u h he hu
    unfold flatB
    rw [List.flatMap_cons]
    cases i with
    | zero =>
      simp at h; subst h
      subst hu
      rw [Nat.zero_mul, Nat.zero_add, List.set_append_left _ _ (by simp [Bq.cells])]
      simp [Bq.cells, he]
    | succ i =>
      rw [List.set_append_right _ _ (by simp [Bq.cells]; omega), show (i + 1) * 2 + 1 - z.cells.length = i * 2 + 1 by simp [Bq.cells]; omega]
      have := ih i t t' u (by simpa using h) he hu
      unfold flatB at this
      rw [this]
      rfl
theorem cel_one (t : Ki) : ∀ u ∈ cel t, u.oneCell' = true := by
  intro u hu
  simp only [cel, List.mem_cons, List.not_mem_nil, or_false] at hu
  rcases hu with rfl | rfl | rfl | rfl <;> rfl
theorem flatI_one (l : List Ki) : ∀ u ∈ flatI l, u.oneCell' = true := by
  intro u hu
  unfold flatI at hu
  obtain ⟨x, _, hx⟩ := List.mem_flatMap.1 hu
  exact cel_one x u hx
theorem change_wf (how : Int) {x : Ki} (h : Wf x) : Wf (change how x) := by
  obtain ⟨h1, h2, h3, h4, h5⟩ := h
  unfold change
  have hi : ∀ v : Int, -1 ≤ v → v ≤ 1 → WP.I v := fun v a b => ⟨by omega, by omega⟩
  have hu : ∀ v : Int, 0 ≤ v → v ≤ 17 → WP.U v := fun v a b => ⟨by omega, by omega⟩
  split
  · split
    · exact ⟨h1, h2, h3, hi 1 (by omega) (by omega), h5⟩
    · exact ⟨h1, h2, h3, h4, hu 8 (by omega) (by omega)⟩
  · split
    · split
      · exact ⟨h1, h2, h3, h4, hu 1 (by omega) (by omega)⟩
      · split
        · exact ⟨h1, h2, h3, hi (-1) (by omega) (by omega), h5⟩
        · exact ⟨h1, h2, h3, hi 1 (by omega) (by omega), h5⟩
    · exact ⟨h1, h2, h3, h4, hu 17 (by omega) (by omega)⟩
theorem inss_slice : Tryd.prog.underlying 29 = some (.slice 38) := by kernel_rfl
theorem ins_info : (Tryd.prog.info? 38).map (fun i => (i.zero, i.size, i.bytes)) = some (some (.agg #[.int .u8 0, .int .i64 0, .int .i64 0, .int .u64 0]), 4, 32) := by kernel_rfl
/-- Instructions of a row of the call's own, as they are read. -/
theorem ir_own {w : World} {base : Nat} {v : Value} {l : List Ki} {n : Nat} (h : w.ownsRow base 38 4 v n (flatI l)) : ∃ A c, v = .slice A n c ∧ n = l.length ∧ n ≤ c ∧ c ≤ maxLen ∧ (A = none → c = 0) ∧ ((A = none ∧ n = 0 ∧ c = 0) ∨ ∃ g, A = some ⟨g, 0, none⟩ ∧ base ≤ g ∧ g < w.heap.size) ∧ Ir w [] A l := by
  have hn : n = l.length := by have := h.1; rw [flatI_len] at this; omega
  obtain ⟨A, c, e, k0, k1, k2, k3, hh⟩ := MO.form h
  refine ⟨A, c, e, hn, k1, k2, k0, hh, fun i x hx => ?_⟩
  have hil := (List.getElem?_eq_some_iff.1 hx).1
  obtain ⟨ad, e2, _, hl, hc⟩ := k3 [] (fun _ _ => by simp) (by rw [flatI_len]; omega)
  rcases hh with ⟨rfl, _, _⟩ | ⟨g, rfl, _, _⟩
  · cases e2
  · injection e2 with e2
    subst e2
    refine ⟨g, 0, rfl, by simp, hl, fun j u hu => ?_⟩
    have := hc (i * 4 + j) u (flatI_at l i x hx j u hu)
    rw [MM.head_add] at this
    rw [Nat.zero_add]; exact this
end KW
end Go.Proofs.YthhibcfljekibaaDoor
