/-
  A map of texts to bools, as a law makes one: a set. No condition.
-/
import Derived.Test.YtpbfgfadickgbaaExpL
namespace Go.Proofs.Ytpbfgfadickgbaa
open Go.RowKit
namespace EW
theorem same_str (n : Nat) (k : ByteArray) : Instr.sameBits n (.string k) (.string k) = true := by
  unfold Instr.sameBits
  simp
structure SetS (w : World) (mb : Nat) (L : List ByteArray) : Prop where
  has : ∃ es clock, w.heap[mb]? = some (.map es clock) ∧ MapKept.Stamped es clock ∧ (∀ x ∈ es.toList, ∃ k, x.key = .string k ∧ k ∈ L ∧ x.val = .bool true) ∧ ∀ k ∈ L, ∃ x ∈ es.toList, x.key = .string k
theorem SetS.lt {w : World} {mb : Nat} {L : List ByteArray} (h : SetS w mb L) : mb < w.heap.size := by
  obtain ⟨es, clock, hb, _⟩ := h.has
  exact (Array.getElem?_eq_some_iff.1 hb).1
theorem SetS.far {w w' : World} {mb : Nat} {L : List ByteArray} {S : List Nat} (h : SetS w mb L) (f : MM.Far S w w') (hS : mb ∉ S) : SetS w' mb L := by
  have hlt := h.lt
  obtain ⟨es, clock, hb, hst, h1, h2⟩ := h.has
  exact ⟨es, clock, (f.block mb hlt hS).trans hb, hst, h1, h2⟩
theorem SetS.new (w : World) : SetS (w.alloc (.map #[] 0)) w.heap.size [] := ⟨#[], 0, by show (w.heap.push _)[w.heap.size]? = _; simp, MapKept.stamped_empty 0, (fun x hx => absurd hx (by simp)), fun k h => by cases h⟩
set_option maxRecDepth 50000 in
theorem SetS.look {w : World} {mb : Nat} {L : List ByteArray} (h : SetS w mb L) (k : ByteArray) : (Instr.lookup 35 (.map (some mb)) (.string k) false).run Try.prog w = .ok (.bool (decide (k ∈ L))) w := by
  obtain ⟨es, clock, hb, -, h1, h2⟩ := h.has
  have hm := Try.underlying35
  have hk := Try.underlying9
  have hkey : MapKept.IsKey .string (.string k) := by simp [MapKept.IsKey]
  have hc := MapKept.run_checkKey (w := w) hk hkey es.isEmpty 9999
  have hall : ∀ x ∈ es.toList, MapKept.IsKey .string x.key := fun x hx => by
    obtain ⟨s', e, _⟩ := h1 x hx
    rw [e]; simp [MapKept.IsKey]
  have hz : (zeroValue 4).run Try.prog w = .ok (.bool false) w := by kernel_rfl
  rcases MapKept.findNow_spec hkey es.toList 0 hall with ⟨g1, g2⟩ | ⟨j, e, g1, g2, g3⟩
  · have hc0 : decide (k ∈ L) = false := decide_eq_false (fun hm => by
      obtain ⟨x, hx, ex⟩ := h2 k hm
      exact absurd ex (g2 x hx))
    rw [hc0]
    simp [Instr.lookup, run_underlying hm, MapKept.run_getObj_map hb, hc, MapKept.run_findKey hk g1, Result.andThen, hz]
  · obtain ⟨k', e1, e2, e3⟩ := h1 e (List.mem_of_getElem? g2)
    rw [g3] at e1
    injection e1 with e1
    subst e1
    rw [decide_eq_true e2]
    simp [Instr.lookup, run_underlying hm, MapKept.run_getObj_map hb, hc, MapKept.run_findKey hk g1, Result.andThen, e3]
set_option maxRecDepth 50000 in
theorem SetS.up {w : World} {mb : Nat} {L : List ByteArray} (h : SetS w mb L) (k : ByteArray) : ∃ w', (Instr.mapUpdate 35 (.map (some mb)) (.string k) (.bool true)).run Try.prog w = .ok () w' ∧ SetS w' mb (k :: L) ∧ MM.Far [mb] w w' := by
  obtain ⟨es, clock, hb, hst, h1, h2⟩ := h.has
  have hlt := h.lt
  have hm := Try.underlying35
  have hk := Try.underlying9
  have hkey : MapKept.IsKey .string (.string k) := by simp [MapKept.IsKey]
  have hc := MapKept.run_checkKey (w := w) hk hkey false 9999
  have hall : ∀ x ∈ es.toList, MapKept.IsKey .string x.key := fun x hx => by
    obtain ⟨s', e, _⟩ := h1 x hx
    rw [e]; simp [MapKept.IsKey]
  have fin : ∀ (es' : Array MapEntry) (clock' : Nat), MapKept.Stamped es' clock' → (∀ x ∈ es'.toList, x ∈ es.toList ∨ (x.key = .string k ∧ x.val = .bool true)) → (∃ x ∈ es'.toList, x.key = .string k) → (∀ y, (∃ x ∈ es.toList, x.key = y) → ∃ x ∈ es'.toList, x.key = y) →
      SetS { w with heap := w.heap.setIfInBounds mb (.map es' clock') } mb (k :: L) := by
    intro es' clock' u0 u1 u2 u3
    refine ⟨es', clock', by show (w.heap.setIfInBounds mb _)[mb]? = _; rw [Array.getElem?_setIfInBounds_self_of_lt hlt], u0, fun x hx => ?_, fun y hy => ?_⟩
    · rcases u1 x hx with hx | ⟨e1, e2⟩
      · obtain ⟨k', e1, e2, e3⟩ := h1 x hx
        exact ⟨k', e1, List.mem_cons_of_mem _ e2, e3⟩
      · exact ⟨k, e1, List.mem_cons_self .., e2⟩
    · rcases List.mem_cons.1 hy with rfl | hy
      · exact u2
      · exact u3 _ (h2 y hy)
  rcases MapKept.findNow_spec hkey es.toList 0 hall with ⟨g1, g2⟩ | ⟨j, e, g1, g2, g3⟩
  · refine ⟨_, ?_, fin (es.push { key := .string k, val := .bool true, born := clock }) (clock + 1) (MapKept.stamped_push hst g2) (fun x hx => ?_) ⟨{ key := .string k, val := .bool true, born := clock }, by simp, rfl⟩ (fun y ⟨x, hx, e⟩ => ⟨x, by simp [hx], e⟩), far_obj _ _ _⟩
    · simp [Instr.mapUpdate, run_underlying hm, MapKept.run_getObj_map hb, hc, MapKept.run_findKey hk g1, MapKept.run_setObj_map _ hb, Result.andThen]
    · simp only [Array.toList_push, List.mem_append, List.mem_singleton] at hx
      rcases hx with hx | rfl
      · exact .inl hx
      · exact .inr ⟨rfl, rfl⟩
  · have hej : es[j]? = some e := by rw [Array.getElem?_toList] at g2; simpa using g2
    refine ⟨_, ?_, fin (es.modify j fun e => { e with key := .string k, val := .bool true }) clock (MapKept.stamped_modify hst j _ (fun _ _ => rfl) (fun e' _ he' => by rw [hej] at he'; injection he' with he'; subst he'; exact g3.symm)) (fun x hx => ?_) ?_ (fun y ⟨x, hx, ek⟩ => ?_), far_obj _ _ _⟩
    · simp [Instr.mapUpdate, run_underlying hm, MapKept.run_getObj_map hb, hc, MapKept.run_findKey hk g1, MapKept.run_setObj_map _ hb, Result.andThen, hej, g3, Instr.keyThatStays, same_str]
    · obtain ⟨i, hi⟩ := List.getElem?_of_mem hx
      rw [Array.getElem?_toList, Array.getElem?_modify] at hi
      split at hi
      · rename_i hji
        subst hji
        rw [hej] at hi
        injection hi with hi
        exact .inr (by rw [← hi]; exact ⟨rfl, rfl⟩)
      · exact .inl (List.mem_of_getElem? (by rw [Array.getElem?_toList]; exact hi))
    · refine ⟨{ e with key := .string k, val := .bool true }, ?_, rfl⟩
      refine List.mem_of_getElem? (i := j) ?_
      rw [Array.getElem?_toList, Array.getElem?_modify, if_pos rfl, hej]; rfl
    · obtain ⟨i, hi⟩ := List.getElem?_of_mem hx
      rw [Array.getElem?_toList] at hi
      by_cases hij : j = i
      · subst hij
        rw [hej] at hi
        injection hi with hi
        subst hi
        refine ⟨{ e with key := .string k, val := .bool true }, ?_, ?_⟩
        · refine List.mem_of_getElem? (i := j) ?_
          rw [Array.getElem?_toList, Array.getElem?_modify, if_pos rfl, hej]; rfl
        · rw [← ek, g3]
      · refine ⟨x, List.mem_of_getElem? (i := i) ?_, ek⟩
        rw [Array.getElem?_toList, Array.getElem?_modify, if_neg hij]
        exact hi
end EW
end Go.Proofs.Ytpbfgfadickgbaa
