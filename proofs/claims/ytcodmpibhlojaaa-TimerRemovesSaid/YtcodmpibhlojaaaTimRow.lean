/-
  Rows of timers (three cells each): what copy, clear and storing do to a row, in the words of rows. No condition.
-/
import Derived.Test.YtcodmpibhlojaaaTimPlain
import Derived.Test.YtcodmpibhlojaaaMemAll
import Derived.Laws.CopyRow
import Derived.Lib.SliceRun
import Derived.Lib.AppendZerosOnto
namespace Go.Proofs.Ytcodmpibhlojaaa
open Go.RowKit Go.Lib
namespace TR
open TM
section
variable {P : Program}
theorem cells_row (b : Nat) (t : TypeId) : ∀ (vs : List Value) (o : Nat) (cur : Array Value) (w : World), w.heap[b]? = some (.cells cur t (0, 0)) → o + vs.length ≤ cur.size →
    w.setCells b o vs = w.setRow b (cur.toList.take o ++ vs ++ cur.toList.drop (o + vs.length)).toArray
  | [], o, cur, w, hg, _ => by
    simp only [World.setCells, List.append_nil, List.length_nil, Nat.add_zero, List.take_append_drop, Array.toArray_toList]
    rw [setRow_self w b cur t (0, 0) hg]
  | v :: rest, o, cur, w, hg, hl => by
    have ih := cells_row b t rest (o + 1) (cur.setIfInBounds o v) (w.setRow b (cur.setIfInBounds o v)) (setRow_heap w b cur _ t _ hg) (by simp at hl ⊢; omega)
    rw [World.setCells, setCell_eq_setRow w b o cur t (0, 0) v hg, ih, setRow_setRow]
    congr 2
    have e := list_seg_step cur.toList o v rest (by simp at hl ⊢; omega)
    simpa [Array.toList_setIfInBounds, Nat.add_assoc] using e
theorem run_copy_k (w : World) (dT sT ty elem : TypeId) (k : Nat) (g o dLen dCap : Nat) (a : Addr) (sLen sCap : Nat) (cur : Array Value) (t : TypeId) (cs : List Value)
    (hu : P.underlying dT = some (.slice elem)) (hs : (P.info? elem).map (·.size) = some k)
    (hg : w.heap[g]? = some (.cells cur t (0, 0))) (n : Nat) (hm : n = Nat.min sLen dLen) (hn : cs.length = n * k)
    (hsrc : ∀ j v, cs[j]? = some v → w.cell? (a.add j) = some v) (hfit : o + cs.length ≤ cur.size) (h1 : ∀ v ∈ cs, v.oneCell' = true) :
    (Builtin.copy_ #[dT, sT] ty #[.slice (some ⟨g, o, none⟩) dLen dCap, .slice (some a) sLen sCap]).run P w =
      .ok (goInt n) (w.setRow g (cur.toList.take o ++ cs ++ cur.toList.drop (o + cs.length)).toArray) := by
  have hl := run_loadCells_list (P := P) w a cs hsrc
  have hst := run_storeCells_at P g o t cs 0 cur w hg (by simpa using hfit) h1
  cases hq : P.info? elem with
  | none => simp [hq] at hs
  | some i =>
    have hi : i.size = k := by simpa [hq] using hs
    simp [Builtin.copy_, run_underlying hu, Builtin.lenOf, Builtin.firstCells, sizeOf, typeInfo, hq, hi, ← hm, ← hn, hl, hst]
theorem run_clear_k (w : World) (t e ty : TypeId) (z : Value) (cs : List Value) (ht : P.underlying t = some (.slice e)) (hv : (zeroValue e).run P w = .ok z w) (b o n c : Nat) (hn : 0 < n) (hcs : (Builtin.zeroCells z.cells n).toList = cs)
    (h1 : ∀ v ∈ cs, v.oneCell' = true) (cur : Array Value) (tt : TypeId) (hg : w.heap[b]? = some (.cells cur tt (0, 0))) (hfit : o + cs.length ≤ cur.size) :
    (Builtin.clear_ #[t] ty #[.slice (some ⟨b, o, none⟩) n c]).run P w = .ok (.tuple #[]) (w.setRow b (cur.toList.take o ++ cs ++ cur.toList.drop (o + cs.length)).toArray) := by
  have hst := run_storeCells_at P b o tt cs 0 cur w hg (by simpa using hfit) h1
  obtain ⟨m, rfl⟩ : ∃ m, n = m + 1 := ⟨n - 1, by omega⟩
  simp [Builtin.clear_, run_underlying ht, hv, hcs, hst]
end
theorem zeros (n : Nat) : (Builtin.zeroCells (#[.int .i64 0, .int .i64 0, .int .i64 0] : Array Value) n).toList = List.replicate (n * 3) (.int .i64 0) := by
  unfold Builtin.zeroCells
  apply List.ext_getElem
  · simp
  · intro i h1 h2
    simp only [List.getElem_replicate]
    simp
    have : i % 3 = 0 ∨ i % 3 = 1 ∨ i % 3 = 2 := by omega
    rcases this with h | h | h <;> simp [h]
theorem zeros_len (n : Nat) : (Builtin.zeroCells (#[.int .i64 0, .int .i64 0, .int .i64 0] : Array Value) n).size = n * 3 := by
  simp [Builtin.zeroCells]
def cs (x : Ti) : List Value := [.int .i64 x.d, .int .i64 x.it, .int .i64 x.n]
def en (l : List Ti) : List Value := l.flatMap cs
theorem en_nil : en [] = [] := rfl
theorem en_cons (x : Ti) (l : List Ti) : en (x :: l) = cs x ++ en l := rfl
theorem en_app (l r : List Ti) : en (l ++ r) = en l ++ en r := by simp [en]
theorem en_len : ∀ l, (en l).length = l.length * 3
  | [] => rfl
  | x :: l => by rw [en_cons, List.length_append, en_len l]; simp [cs]; omega
theorem en_take : ∀ (l : List Ti) (i : Nat), (en l).take (i * 3) = en (l.take i)
  | l, 0 => by simp [en_nil]
  | [], i + 1 => by simp [en_nil]
  | x :: l, i + 1 => by
    rw [en_cons, List.take_succ_cons, en_cons, show (i + 1) * 3 = (cs x).length + i * 3 by simp [cs]; omega, List.take_length_add_append, en_take l i]
theorem en_drop : ∀ (l : List Ti) (i : Nat), (en l).drop (i * 3) = en (l.drop i)
  | l, 0 => by simp
  | [], i + 1 => by simp [en_nil]
  | x :: l, i + 1 => by
    rw [en_cons, List.drop_succ_cons, show (i + 1) * 3 = (cs x).length + i * 3 by simp [cs]; omega, List.drop_length_add_append, en_drop l i]
theorem en_one (l : List Ti) : ∀ u ∈ en l, u.oneCell' = true := by
  intro u hu
  obtain ⟨x, _, hx⟩ := List.mem_flatMap.1 hu
  simp only [cs, List.mem_cons, List.not_mem_nil, or_false] at hx
  rcases hx with rfl | rfl | rfl <;> rfl
theorem en_at (l : List Ti) (k : Nat) (h : k < l.length) (i : Nat) (v : Value) (hv : (cs (l[k]))[i]? = some v) : (en l)[k * 3 + i]? = some v := by
  rw [← List.getElem?_drop, en_drop, List.drop_eq_getElem_cons h, en_cons, List.getElem?_append_left (List.getElem?_eq_some_iff.1 hv).1, hv]
end TR
end Go.Proofs.Ytcodmpibhlojaaa
