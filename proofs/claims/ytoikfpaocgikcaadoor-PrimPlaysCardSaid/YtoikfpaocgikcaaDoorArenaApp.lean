/-
  Appending words to a row of words that the call has made itself. No condition but sizes.
-/
import Derived.Test.YtoikfpaocgikcaaDoorArenaMore
import Derived.Test.YtoikfpaocgikcaaDoorMemAll
namespace Go.Proofs.YtoikfpaocgikcaaDoor
open Go.RowKit
namespace AL
open AW
theorem app {w : World} {ops : Array Oper} {rest : List Oper} {o : Oper} {a : Act} {Q : Exit → Act → World → Prop} (hgd : o.guard = none) (s x : Operand)
    (ho : o.op = .call { callee := .builtin .append, args := #[s, x], argTypes := #[32, 32] })
    (base : Nat) (v : Value) (n : Nat) (xs : List Int) (hs : a.eval s = v) (A : Option Addr) (m c : Nat) (news : List Int) (hx : a.eval x = .slice A m c)
    (hown : w.ownsRow base 36 1 v n (U64s xs)) (hl : news.length = m) (hnil : A = none → c = 0 ∧ m = 0) (S : List Nat) (hsrc : MM.Src w S A (U64s news))
    (hb : n + m ≤ 17592186044416) (hbase : base ≤ w.heap.size)
    (h : ∀ v' w', w'.ownsRow base 36 1 v' (n + m) (U64s (xs ++ news)) → w.grownBy w' v.ownBlock → (v'.ownBlock = v.ownBlock ∨ v'.ownBlock = some w.heap.size) → wpList Tryd.prog ops Q rest (a.put o.dst v') w') :
    wpList Tryd.prog ops Q (o :: rest) a w :=
  MO.wpList_append w hgd s x 32 ho base 36 (.int .u64 0) 1 8 words_slice word_info rfl (by omega) v n (U64s xs) hs hown A m c (U64s news) hx
    (by simp [U64s, hl]) hnil S hsrc (u64s_one _) (by simp only [maxLen]; omega) (by omega) hbase
    (fun v' w' h1 h2 h3 => h v' w' (by rw [U64s, List.map_append]; exact h1) h2 h3)
/-- An empty row of words that was written out. -/
theorem empty_row (w : World) (base : Nat) (hb : base ≤ w.heap.size) : (w.alloc (.cells #[] 36)).ownsRow base 36 1 (.slice (some ⟨w.heap.size, 0, none⟩) 0 0) 0 (U64s []) :=
  MO.of_row (MM.Row.new _ _ []) hb rfl (by unfold maxLen; omega)
/-- A row of the call's own, made since the world a, that holds the numbers l. -/
def Copied (a : World) (s : Value) (l : List Int) (w : World) : Prop := w.ownsRow a.heap.size 36 1 s l.length (U64s l) ∧ MM.Far [] a w
theorem copied_of {a w w' : World} {o : Obj} {v v' : Value} {l : List Int} {n : Nat} (hf : MM.Far [] a w) (hn : n = l.length) (hv : v.ownBlock = some w.heap.size) (h1 : w'.ownsRow a.heap.size 36 1 v' n (U64s l)) (h2 : (w.alloc o).grownBy w' v.ownBlock) : Copied a v' l w' := by
  subst hn
  refine ⟨h1, (hf.alloc o).trans (MM.Far.of_grown (S := [w.heap.size]) h2 ?_) ?_⟩
  · intro b hb _
    rw [hv] at hb
    simp at hb; simp [hb]
  · intro b hb hlt
    have := hf.size
    simp at hb; omega
theorem u_of {x : Int} (h : (Lit.int .u64 x).wf = true) : WP.U x := by
  simp [Lit.wf, IntKind.min, IntKind.max, IntKind.signed, IntKind.bits] at h
  unfold WP.U; omega
theorem take_src {a : Option Addr} {len cap : Nat} {zs : List Int} {w w' : World} (hz : MR.Ints .u64 w a len cap zs) (hF : MM.Far [] w w') (k : Nat) : MM.Src w' [] a (U64s (zs.take k)) := by
  have h := hz.src.far hF (by simp)
  intro hp
  have hp2 : 0 < (zs.map (Value.int .u64)).length := by simp [U64s] at hp ⊢; omega
  obtain ⟨ad, e, hb, hl, hc⟩ := h hp2
  refine ⟨ad, e, hb, hl, fun j u hu => hc j u ?_⟩
  unfold U64s at hu
  rw [List.map_take] at hu
  have := List.getElem?_take (l := zs.map (Value.int .u64)) (i := k) (j := j)
  rw [this] at hu
  split at hu
  · exact hu
  · cases hu
end AL
end Go.Proofs.YtoikfpaocgikcaaDoor
