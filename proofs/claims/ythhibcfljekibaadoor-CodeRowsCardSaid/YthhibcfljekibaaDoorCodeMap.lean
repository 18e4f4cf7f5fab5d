/-
  A map of numbers to numbers that the call has made, as layer 11's code keeps it: asked whether it has a key. No condition.
-/
import Derived.Test.YthhibcfljekibaaDoorCodePrim
import Derived.MapKept
import Derived.Laws.EntriesVeiled
namespace Go.Proofs.YthhibcfljekibaaDoor
open Go.RowKit
namespace KW
theorem same_int (n : Nat) (k : Int) : Instr.sameBits n (.int .i64 k) (.int .i64 k) = true := by
  unfold Instr.sameBits
  simp
theorem far_blk (w : World) (q : Nat) (o : Obj) : MM.Far [q] w { w with heap := w.heap.setIfInBounds q o } :=
  ⟨rfl, rfl, rfl, by show w.heap.size ≤ (w.heap.setIfInBounds q o).size; rw [Array.size_setIfInBounds]; exact Nat.le_refl _, fun b hb hn => by show (w.heap.setIfInBounds q o)[b]? = _; rw [Array.getElem?_setIfInBounds_ne (fun e => hn (by rw [e]; exact List.mem_cons_self ..))]⟩
structure MapI (w : World) (mb : Nat) (c : Int → Option Int) : Prop where
  has : ∃ es clock, w.heap[mb]? = some (.map es clock) ∧ MapKept.Stamped es clock ∧ (∀ x ∈ es.toList, ∃ k v, x.key = .int .i64 k ∧ x.val = .int .i64 v ∧ c k = some v) ∧ ∀ k v, c k = some v → ∃ x ∈ es.toList, x.key = .int .i64 k
theorem MapI.lt {w : World} {mb : Nat} {c : Int → Option Int} (h : MapI w mb c) : mb < w.heap.size := by
  obtain ⟨es, clock, hb, _⟩ := h.has
  exact (Array.getElem?_eq_some_iff.1 hb).1
theorem MapI.far {w w' : World} {mb : Nat} {c : Int → Option Int} {S : List Nat} (h : MapI w mb c) (f : MM.Far S w w') (hS : mb ∉ S) : MapI w' mb c := by
  have hlt := h.lt
  obtain ⟨es, clock, hb, hst, h1, h2⟩ := h.has
  exact ⟨es, clock, (f.block mb hlt hS).trans hb, hst, h1, h2⟩
theorem MapI.new (w : World) : MapI (w.alloc (.map #[] 0)) w.heap.size (fun _ => none) := ⟨#[], 0, by show (w.heap.push _)[w.heap.size]? = _; simp, MapKept.stamped_empty 0, (fun x hx => absurd hx (by simp)), fun k v h => by cases h⟩
set_option maxRecDepth 50000 in
theorem MapI.look {w : World} {mb : Nat} {c : Int → Option Int} (h : MapI w mb c) (k : Int) : (Instr.lookup 47 (.map (some mb)) (.int .i64 k) true).run Tryd.prog w = .ok (.tuple #[.int .i64 ((c k).getD 0), .bool (c k).isSome]) w := by
  obtain ⟨es, clock, hb, -, h1, h2⟩ := h.has
  have hm := Tryd.underlying47
  have hk := Tryd.underlying3
  have hkey : MapKept.IsKey (.int .i64) (.int .i64 k) := by simp [MapKept.IsKey]
  have hc := MapKept.run_checkKey (w := w) hk hkey es.isEmpty 9999
  have hall : ∀ x ∈ es.toList, MapKept.IsKey (.int .i64) x.key := fun x hx => by
    obtain ⟨k', v', e, _⟩ := h1 x hx
    rw [e]; simp [MapKept.IsKey]
  have hz : (zeroValue 3).run Tryd.prog w = .ok (.int .i64 0) w := by kernel_rfl
  rcases MapKept.findNow_spec hkey es.toList 0 hall with ⟨g1, g2⟩ | ⟨j, e, g1, g2, g3⟩
  · have hc0 : c k = none := by
      cases hck : c k with
      | none => rfl
      | some v =>
        obtain ⟨x, hx, ex⟩ := h2 k v hck
        exact absurd ex (g2 x hx)
    rw [hc0]
    simp [Instr.lookup, run_underlying hm, MapKept.run_getObj_map hb, hc, MapKept.run_findKey hk g1, Result.andThen, hz]
  · obtain ⟨k', v', e1, e2, e3⟩ := h1 e (List.mem_of_getElem? g2)
    rw [g3] at e1
    injection e1 with _ e1
    subst e1
    rw [e3]
    simp [Instr.lookup, run_underlying hm, MapKept.run_getObj_map hb, hc, MapKept.run_findKey hk g1, Result.andThen, e2]
set_option maxRecDepth 50000 in
theorem MapI.up {w : World} {mb : Nat} {c : Int → Option Int} (h : MapI w mb c) (k : Int) (m : Int) : ∃ w', (Instr.mapUpdate 47 (.map (some mb)) (.int .i64 k) (.int .i64 m)).run Tryd.prog w = .ok () w' ∧ MapI w' mb (fun x => if x = k then some m else c x) ∧ MM.Far [mb] w w' := by
  obtain ⟨es, clock, hb, hst, h1, h2⟩ := h.has
  have hlt := h.lt
  have hm := Tryd.underlying47
  have hk := Tryd.underlying3
  have hkey : MapKept.IsKey (.int .i64) (.int .i64 k) := by simp [MapKept.IsKey]
  have hc := MapKept.run_checkKey (w := w) hk hkey false 9999
  have hall : ∀ x ∈ es.toList, MapKept.IsKey (.int .i64) x.key := fun x hx => by
    obtain ⟨k', v', e, _⟩ := h1 x hx
    rw [e]; simp [MapKept.IsKey]
  have fin : ∀ (es' : Array MapEntry) (clock' : Nat), MapKept.Stamped es' clock' → (∀ x ∈ es'.toList, (x ∈ es.toList ∧ x.key ≠ .int .i64 k) ∨ (x.key = .int .i64 k ∧ x.val = .int .i64 m)) → (∃ x ∈ es'.toList, x.key = .int .i64 k) → (∀ y, (∃ x ∈ es.toList, x.key = y) → ∃ x ∈ es'.toList, x.key = y) →
      MapI { w with heap := w.heap.setIfInBounds mb (.map es' clock') } mb (fun x => if x = k then some m else c x) := by
    intro es' clock' u0 u1 u2 u3
    refine ⟨es', clock', by show (w.heap.setIfInBounds mb _)[mb]? = _; rw [Array.getElem?_setIfInBounds_self_of_lt hlt], u0, fun x hx => ?_, fun y v hy => ?_⟩
    · rcases u1 x hx with ⟨hx, hne⟩ | ⟨e1, e2⟩
      · obtain ⟨k', v', e1, e2, e3⟩ := h1 x hx
        refine ⟨k', v', e1, e2, ?_⟩
        have : k' ≠ k := fun e => hne (by rw [e1, e])
        simp only [if_neg this]
        exact e3
      · exact ⟨k, m, e1, e2, by simp only [if_true]⟩
    · by_cases e : y = k
      · subst e; exact u2
      · simp only [if_neg e] at hy
        exact u3 _ (h2 y v hy)
  rcases MapKept.findNow_spec hkey es.toList 0 hall with ⟨g1, g2⟩ | ⟨j, e, g1, g2, g3⟩
  · refine ⟨_, ?_, fin (es.push { key := .int .i64 k, val := .int .i64 m, born := clock }) (clock + 1) (MapKept.stamped_push hst g2) (fun x hx => ?_) ⟨{ key := .int .i64 k, val := .int .i64 m, born := clock }, by simp, rfl⟩ (fun y ⟨x, hx, e⟩ => ⟨x, by simp [hx], e⟩), far_blk _ _ _⟩
    · simp [Instr.mapUpdate, run_underlying hm, MapKept.run_getObj_map hb, hc, MapKept.run_findKey hk g1, MapKept.run_setObj_map _ hb, Result.andThen]
    · simp only [Array.toList_push, List.mem_append, List.mem_singleton] at hx
      rcases hx with hx | rfl
      · exact .inl ⟨hx, g2 x hx⟩
      · exact .inr ⟨rfl, rfl⟩
  · have hej : es[j]? = some e := by rw [Array.getElem?_toList] at g2; simpa using g2
    have hN := hst.2.2
    refine ⟨_, ?_, fin (es.modify j fun e => { e with key := .int .i64 k, val := .int .i64 m }) clock (MapKept.stamped_modify hst j _ (fun _ _ => rfl) (fun e' _ he' => by rw [hej] at he'; injection he' with he'; subst he'; exact g3.symm)) (fun x hx => ?_) ?_ (fun y ⟨x, hx, ek⟩ => ?_), far_blk _ _ _⟩
    · simp [Instr.mapUpdate, run_underlying hm, MapKept.run_getObj_map hb, hc, MapKept.run_findKey hk g1, MapKept.run_setObj_map _ hb, Result.andThen, hej, g3, Instr.keyThatStays, same_int]
    · obtain ⟨i, hi⟩ := List.getElem?_of_mem hx
      rw [Array.getElem?_toList, Array.getElem?_modify] at hi
      split at hi
      · rename_i hji
        subst hji
        rw [hej] at hi
        injection hi with hi
        exact .inr (by rw [← hi]; exact ⟨rfl, rfl⟩)
      · rename_i hji
        refine .inl ⟨List.mem_of_getElem? (by rw [Array.getElem?_toList]; exact hi), fun hxk => hji ?_⟩
        have hi' : (es.toList.map (·.key))[i]? = some (.int .i64 k) := by rw [List.getElem?_map, Array.getElem?_toList, hi]; exact congrArg some hxk
        have hj' : (es.toList.map (·.key))[j]? = some (.int .i64 k) := by rw [List.getElem?_map, Array.getElem?_toList, hej]; exact congrArg some g3
        have l1 := (List.getElem?_eq_some_iff.1 hi').1
        exact ((List.getElem?_inj l1 hN).1 (hi'.trans hj'.symm)).symm
    · refine ⟨{ e with key := .int .i64 k, val := .int .i64 m }, ?_, rfl⟩
      refine List.mem_of_getElem? (i := j) ?_
      rw [Array.getElem?_toList, Array.getElem?_modify, if_pos rfl, hej]; rfl
    · obtain ⟨i, hi⟩ := List.getElem?_of_mem hx
      rw [Array.getElem?_toList] at hi
      by_cases hij : j = i
      · subst hij
        rw [hej] at hi
        injection hi with hi
        subst hi
        refine ⟨{ e with key := .int .i64 k, val := .int .i64 m }, ?_, ?_⟩
        · refine List.mem_of_getElem? (i := j) ?_
          rw [Array.getElem?_toList, Array.getElem?_modify, if_pos rfl, hej]; rfl
        · rw [← ek, g3]
      · refine ⟨x, List.mem_of_getElem? (i := i) ?_, ek⟩
        rw [Array.getElem?_toList, Array.getElem?_modify, if_neg hij]
        exact hi
end KW
end Go.Proofs.YthhibcfljekibaaDoor
