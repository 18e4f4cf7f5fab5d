/-
  Appends to rows of instructions that a law makes itself; one block laid alone. No condition but sizes.
-/
import Derived.Test.YthhibcfljekibaaDoorCodeOwn
namespace Go.Proofs.YthhibcfljekibaaDoor
open Go.RowKit
set_option linter.unusedVariables false
namespace KW
open KP
/-- append, as the walk meets it. -/
theorem ins_app {w : World} {ops : Array Oper} {rest : List Oper} {o : Oper} {a : Act} {Q : Exit → Act → World → Prop} (hgd : o.guard = none) (s x : Operand)
    (ho : o.op = .call { callee := .builtin .append, args := #[s, x], argTypes := #[29, 29] }) (base : Nat) (v : Value) (n : Nat) (l : List Ki) (hs : a.eval s = v) (hown : w.ownsRow base 38 4 v n (flatI l))
    (A : Option Addr) (m c : Nat) (l2 : List Ki) (hx : a.eval x = .slice A m c) (hl : l2.length = m) (hnil : A = none → c = 0 ∧ m = 0) (hsrc : MM.Src w [] A (flatI l2)) (hb : n + m ≤ 1000) (hbase : base ≤ w.heap.size)
    (h : ∀ v' w', w'.ownsRow base 38 4 v' (n + m) (flatI (l ++ l2)) → MM.Far v.ownBlock.toList w w' → wpList Tryd.prog ops Q rest (a.put o.dst v') w') : wpList Tryd.prog ops Q (o :: rest) a w := by
  refine MO.wpList_append w hgd s x 29 ho base 38 _ 4 32 inss_slice ins_info rfl (by omega) v n (flatI l) hs hown A m c (flatI l2) hx (by rw [flatI_len, hl]) hnil [] hsrc (flatI_one l2) (by simp only [maxLen]; omega) (by omega) hbase ?_
  intro v' w' h1 h2 h3
  refine h v' w' ?_ (MM.Far.of_grown (S := v.ownBlock.toList) h2 (by intro b1 hb1 _; simp [hb1]))
  have : flatI (l ++ l2) = flatI l ++ flatI l2 := by simp [flatI]
  rw [this]; exact h1
/-- Instructions of a row of the call's own, as a source. -/
theorem src_own {w : World} {base : Nat} {v : Value} {l : List Ki} {n : Nat} (h : w.ownsRow base 38 4 v n (flatI l)) : ∃ A c, v = .slice A n c ∧ n = l.length ∧ n ≤ c ∧ c ≤ maxLen ∧ (A = none → c = 0 ∧ n = 0) ∧ MM.Src w [] A (flatI l) ∧ Ir w [] A l := by
  obtain ⟨A, c, e, hn, k1, k2, k0, hh, hI⟩ := ir_own h
  obtain ⟨A', c', e', _, _, _, k3, _⟩ := MO.form h
  rw [e] at e'
  injection e' with e1 e2 e3
  subst e1
  refine ⟨A, c, e, hn, k1, k2, fun hA => ⟨k0 hA, by have := k0 hA; omega⟩, k3 [] (fun _ _ => by simp), hI⟩
/-- A row that is laid with these instructions. -/
theorem src_new (w : World) (l : List Ki) (vs : List Value) (k : Nat) (hk : k = w.heap.size) (e : vs = flatI l) : MM.Src (w.alloc (.cells vs.toArray 38)) [] (some ⟨k, 0, none⟩) (flatI l) := by
  subst hk
  subst e
  exact MM.Src.row (MM.Row.new w _ _) (by simp) _ (fun j u hu => hu)
theorem own_empty (w : World) (k : Nat) (hk : k = w.heap.size) (base : Nat) (hb : base ≤ w.heap.size) : (w.alloc (.cells #[] 38)).ownsRow base 38 4 (.slice (some ⟨k, 0, none⟩) 0 0) 0 (flatI []) := by
  subst hk
  exact MO.of_row (MM.Row.new w 38 []) hb rfl (by unfold maxLen; omega)
/-- One block, laid alone. -/
theorem br_new (w : World) (k : Nat) (hk : k = w.heap.size) (many : Int) (l : List Ki) (A : Option Addr) (m c : Nat) (hm : l.length = m) (hc : m ≤ c) (hc2 : c ≤ maxLen) (hI : Ir w [] A l) : Br (w.alloc (.cells #[num many, .slice A m c] 31)) [] (some ⟨k, 0, none⟩) [⟨many, l⟩] := by
  subst hk
  subst hm
  have hr := MM.Row.new w 31 [num many, .slice A l.length c]
  intro i x hx
  have hi : i = 0 := by have := (List.getElem?_eq_some_iff.1 hx).1; simpa using this
  subst hi
  simp at hx
  subst hx
  exact ⟨w.heap.size, 0, A, c, rfl, by simp, hr.lt, hr.at (i := 0) rfl, hr.at (i := 1) rfl, hc, hc2, hI.far ((MM.Far.refl [] w).alloc _) (by simp)⟩
theorem check_one {w : World} (hT : TT w) (k : Nat) (hk : k = w.heap.size) (l : List Ki) (A : Option Addr) (m c : Nat) (hm : l.length = m) (h9 : m < 1000000000) (hc : m ≤ c) (hc2 : c ≤ maxLen) (hw : ∀ x ∈ l, Wf x) (hI : Ir w [] A l) :
    Calls Tryd.prog 10 #[.slice (some ⟨k, 0, none⟩) 1 1] (w.alloc (.cells #[num 0, .slice A m c] 31)) (ChQ (check [⟨0, l⟩]) (w.alloc (.cells #[num 0, .slice A m c] 31))) := by
  refine check_any [⟨0, l⟩] 1 rfl (by omega) (fun b hb => ?_) (some ⟨k, 0, none⟩) 1 _ (hT.far ((MM.Far.refl [] w).alloc _)) (br_new w k hk 0 l A m c hm hc hc2 hI)
  simp at hb
  subst hb
  exact ⟨by show l.length < _; omega, hw⟩
end KW
end Go.Proofs.YthhibcfljekibaaDoor
