/-
  A map that counts, as a law makes one. No condition.
-/
import Derived.Test.YtpbfgfadickgbaaExpL
namespace Go.Proofs.Ytpbfgfadickgbaa
open Go.RowKit
namespace EW
/-! ### a map that counts -/
theorem same_u8 (n : Nat) (k : Int) : Instr.sameBits n (.int .u8 k) (.int .u8 k) = true := by
  unfold Instr.sameBits
  simp
structure MapC (w : World) (mb : Nat) (c : Int → Nat) : Prop where
  has : ∃ es clock, w.heap[mb]? = some (.map es clock) ∧ MapKept.Stamped es clock ∧ (∀ x ∈ es.toList, ∃ k, x.key = .int .u8 k ∧ x.val = .int .i64 (c k)) ∧ ∀ k, c k ≠ 0 → ∃ x ∈ es.toList, x.key = .int .u8 k
theorem MapC.lt {w : World} {mb : Nat} {c : Int → Nat} (h : MapC w mb c) : mb < w.heap.size := by
  obtain ⟨es, clock, hb, _⟩ := h.has
  exact (Array.getElem?_eq_some_iff.1 hb).1
theorem MapC.far {w w' : World} {mb : Nat} {c : Int → Nat} (h : MapC w mb c) (f : MM.Far [] w w') : MapC w' mb c := by
  have hlt := h.lt
  obtain ⟨es, clock, hb, hst, h1, h2⟩ := h.has
  exact ⟨es, clock, (f.block mb hlt (by simp)).trans hb, hst, h1, h2⟩
theorem MapC.new (w : World) : MapC (w.alloc (.map #[] 0)) w.heap.size (fun _ => 0) := ⟨#[], 0, by show (w.heap.push _)[w.heap.size]? = _; simp, MapKept.stamped_empty 0, (fun x hx => absurd hx (by simp)), fun k h => absurd rfl h⟩
set_option maxRecDepth 50000 in
theorem MapC.look {w : World} {mb : Nat} {c : Int → Nat} (h : MapC w mb c) (k : Int) : (Instr.lookup 45 (.map (some mb)) (.int .u8 k) false).run Try.prog w = .ok (.int .i64 (c k)) w := by
  obtain ⟨es, clock, hb, -, h1, h2⟩ := h.has
  have hm := Try.underlying45
  have hk := Try.underlying5
  have hkey : MapKept.IsKey (.int .u8) (.int .u8 k) := by simp [MapKept.IsKey]
  have hc := MapKept.run_checkKey (w := w) hk hkey es.isEmpty 9999
  have hall : ∀ x ∈ es.toList, MapKept.IsKey (.int .u8) x.key := fun x hx => by
    obtain ⟨s', e, _⟩ := h1 x hx
    rw [e]; simp [MapKept.IsKey]
  have hz : (zeroValue 3).run Try.prog w = .ok (.int .i64 0) w := by kernel_rfl
  rcases MapKept.findNow_spec hkey es.toList 0 hall with ⟨g1, g2⟩ | ⟨j, e, g1, g2, g3⟩
  · have hc0 : c k = 0 := by
      by_cases hck : c k = 0
      · exact hck
      · obtain ⟨x, hx, ex⟩ := h2 k hck
        exact absurd ex (g2 x hx)
    rw [hc0]
    simp [Instr.lookup, run_underlying hm, MapKept.run_getObj_map hb, hc, MapKept.run_findKey hk g1, Result.andThen, hz]
  · obtain ⟨k', e1, e2⟩ := h1 e (List.mem_of_getElem? g2)
    rw [g3] at e1
    injection e1 with _ e1
    subst e1
    simp [Instr.lookup, run_underlying hm, MapKept.run_getObj_map hb, hc, MapKept.run_findKey hk g1, Result.andThen, e2]
set_option maxRecDepth 50000 in
theorem MapC.up {w : World} {mb : Nat} {c : Int → Nat} (h : MapC w mb c) (k : Int) : ∃ w', (Instr.mapUpdate 45 (.map (some mb)) (.int .u8 k) (.int .i64 ((c k : Nat) + 1 : Int))).run Try.prog w = .ok () w' ∧ MapC w' mb (fun x => if x = k then c k + 1 else c x) ∧ MM.Far [mb] w w' := by
  obtain ⟨es, clock, hb, hst, h1, h2⟩ := h.has
  have hlt := h.lt
  have hm := Try.underlying45
  have hk := Try.underlying5
  have hkey : MapKept.IsKey (.int .u8) (.int .u8 k) := by simp [MapKept.IsKey]
  have hc := MapKept.run_checkKey (w := w) hk hkey false 9999
  have hall : ∀ x ∈ es.toList, MapKept.IsKey (.int .u8) x.key := fun x hx => by
    obtain ⟨s', e, _⟩ := h1 x hx
    rw [e]; simp [MapKept.IsKey]
  have fin : ∀ (es' : Array MapEntry) (clock' : Nat), MapKept.Stamped es' clock' → (∀ x ∈ es'.toList, (x ∈ es.toList ∧ x.key ≠ .int .u8 k) ∨ (x.key = .int .u8 k ∧ x.val = .int .i64 ((c k : Nat) + 1 : Int))) → (∃ x ∈ es'.toList, x.key = .int .u8 k) → (∀ y, (∃ x ∈ es.toList, x.key = y) → ∃ x ∈ es'.toList, x.key = y) →
      MapC { w with heap := w.heap.setIfInBounds mb (.map es' clock') } mb (fun x => if x = k then c k + 1 else c x) := by
    intro es' clock' u0 u1 u2 u3
    refine ⟨es', clock', by show (w.heap.setIfInBounds mb _)[mb]? = _; rw [Array.getElem?_setIfInBounds_self_of_lt hlt], u0, fun x hx => ?_, fun y hy => ?_⟩
    · rcases u1 x hx with ⟨hx, hne⟩ | ⟨e1, e2⟩
      · obtain ⟨k', e1, e2⟩ := h1 x hx
        refine ⟨k', e1, ?_⟩
        have : k' ≠ k := fun e => hne (by rw [e1, e])
        simp only [if_neg this]
        exact e2
      · exact ⟨k, e1, by simp only [if_true]; rw [e2]; push_cast; rfl⟩
    · by_cases e : y = k
      · subst e; exact u2
      · simp only [if_neg e] at hy
        exact u3 _ (h2 y hy)
  rcases MapKept.findNow_spec hkey es.toList 0 hall with ⟨g1, g2⟩ | ⟨j, e, g1, g2, g3⟩
  · refine ⟨_, ?_, fin (es.push { key := .int .u8 k, val := .int .i64 ((c k : Nat) + 1 : Int), born := clock }) (clock + 1) (MapKept.stamped_push hst g2) (fun x hx => ?_) ⟨{ key := .int .u8 k, val := .int .i64 ((c k : Nat) + 1 : Int), born := clock }, by simp, rfl⟩ (fun y ⟨x, hx, e⟩ => ⟨x, by simp [hx], e⟩), far_obj _ _ _⟩
    · simp [Instr.mapUpdate, run_underlying hm, MapKept.run_getObj_map hb, hc, MapKept.run_findKey hk g1, MapKept.run_setObj_map _ hb, Result.andThen]
    · simp only [Array.toList_push, List.mem_append, List.mem_singleton] at hx
      rcases hx with hx | rfl
      · exact .inl ⟨hx, g2 x hx⟩
      · exact .inr ⟨rfl, rfl⟩
  · have hej : es[j]? = some e := by rw [Array.getElem?_toList] at g2; simpa using g2
    have hN := hst.2.2
    refine ⟨_, ?_, fin (es.modify j fun e => { e with key := .int .u8 k, val := .int .i64 ((c k : Nat) + 1 : Int) }) clock (MapKept.stamped_modify hst j _ (fun _ _ => rfl) (fun e' _ he' => by rw [hej] at he'; injection he' with he'; subst he'; exact g3.symm)) (fun x hx => ?_) ?_ (fun y ⟨x, hx, ek⟩ => ?_), far_obj _ _ _⟩
    · simp [Instr.mapUpdate, run_underlying hm, MapKept.run_getObj_map hb, hc, MapKept.run_findKey hk g1, MapKept.run_setObj_map _ hb, Result.andThen, hej, g3, Instr.keyThatStays, same_u8]
    · obtain ⟨i, hi⟩ := List.getElem?_of_mem hx
      rw [Array.getElem?_toList, Array.getElem?_modify] at hi
      split at hi
      · rename_i hji
        subst hji
        rw [hej] at hi
        injection hi with hi
        exact .inr (by rw [← hi]; exact ⟨rfl, rfl⟩)
      · rename_i hji
        refine .inl ⟨List.mem_of_getElem? (by rw [Array.getElem?_toList]; exact hi), fun hxk => hji ?_⟩
        have hi' : (es.toList.map (·.key))[i]? = some (.int .u8 k) := by rw [List.getElem?_map, Array.getElem?_toList, hi]; exact congrArg some hxk
        have hj' : (es.toList.map (·.key))[j]? = some (.int .u8 k) := by rw [List.getElem?_map, Array.getElem?_toList, hej]; exact congrArg some g3
        have l1 := (List.getElem?_eq_some_iff.1 hi').1
        exact ((List.getElem?_inj l1 hN).1 (hi'.trans hj'.symm)).symm
    · refine ⟨{ e with key := .int .u8 k, val := .int .i64 ((c k : Nat) + 1 : Int) }, ?_, rfl⟩
      refine List.mem_of_getElem? (i := j) ?_
      rw [Array.getElem?_toList, Array.getElem?_modify, if_pos rfl, hej]; rfl
    · obtain ⟨i, hi⟩ := List.getElem?_of_mem hx
      rw [Array.getElem?_toList] at hi
      by_cases hij : j = i
      · subst hij
        rw [hej] at hi
        injection hi with hi
        subst hi
        refine ⟨{ e with key := .int .u8 k, val := .int .i64 ((c k : Nat) + 1 : Int) }, ?_, ?_⟩
        · refine List.mem_of_getElem? (i := j) ?_
          rw [Array.getElem?_toList, Array.getElem?_modify, if_pos rfl, hej]; rfl
        · rw [← ek, g3]
      · refine ⟨x, List.mem_of_getElem? (i := i) ?_, ek⟩
        rw [Array.getElem?_toList, Array.getElem?_modify, if_neg hij]
        exact hi
end EW
end Go.Proofs.Ytpbfgfadickgbaa
