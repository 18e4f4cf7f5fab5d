/-
  Several texts in one: ExpS1, ExpS2, ExpS3, ExpS4. Each one's own head tells its conditions.
-/
import Derived.Test.YtaghlpolljaedaaGreatExpBase
import Derived.Orders
/-
  A region whose operations come in any order, by a fact that each of them keeps; a map that is written. No condition.
-/
namespace Go.Proofs.YtaghlpolljaedaaGreat
open Go.RowKit
namespace EW
open LX SX RW6 EX
section
variable {P : Program} {ops : Array Oper} {Q : Exit → Act → World → Prop} {md : Region.Mode}
theorem mem_ready {listed : Array Bool} {i : Nat} (h : i ∈ Region.ready md ops listed) : i < ops.size ∧ listed.getD i true = false ∧ ∀ o, ops[i]? = some o → ∀ e ∈ o.after, Region.binds md e = true → listed.getD e.on false = true := by
  unfold Region.ready at h
  rw [List.mem_filter, List.mem_range] at h
  obtain ⟨h1, h2⟩ := h
  rw [Bool.and_eq_true] at h2
  refine ⟨h1, by simpa using h2.1, fun o ho e he hb => ?_⟩
  have h3 := h2.2
  rw [ho] at h3
  have h3 : (o.after.all fun e => !Region.binds md e || listed.getD e.on false) = true := h3
  have := Array.all_eq_true_iff_forall_mem.1 h3 e he
  rw [hb] at this
  simpa using this
theorem ready_mem {listed : Array Bool} {i : Nat} (h1 : i < ops.size) (h2 : listed.getD i true = false) (h3 : ∀ o, ops[i]? = some o → ∀ e ∈ o.after, listed.getD e.on false = true) : i ∈ Region.ready md ops listed := by
  unfold Region.ready
  rw [List.mem_filter, List.mem_range]
  refine ⟨h1, ?_⟩
  rw [Bool.and_eq_true]
  refine ⟨by rw [h2]; rfl, ?_⟩
  have ho : ops[i]? = some ops[i] := Array.getElem?_eq_getElem h1
  rw [ho]
  show (ops[i].after.all fun e => !Region.binds md e || listed.getD e.on false) = true
  refine Array.all_eq_true_iff_forall_mem.2 (fun e he => ?_)
  rw [h3 _ ho e he]
  simp
theorem all_listed {listed : Array Bool} (hs : listed.size = ops.size) (hback : ∀ (i : Nat) (o : Oper), ops[i]? = some o → ∀ e ∈ o.after, e.on < i) (h : Region.ready md ops listed = []) : ∀ i, i < ops.size → listed.getD i false = true := by
  intro i
  induction i using Nat.strongRecOn with
  | _ i ih =>
  intro hi
  cases hl : listed.getD i false with
  | true => rfl
  | false =>
    exfalso
    have h2 : listed.getD i true = false := by
      rw [Array.getD_eq_getD_getElem?, Array.getElem?_eq_getElem (by omega)] at hl ⊢
      exact hl
    have := ready_mem (md := md) hi h2 (fun o ho e he => by
      have h1 := hback i o ho e he
      exact ih e.on h1 (by omega))
    rw [h] at this
    cases this
theorem count_set {l : List Bool} {i : Nat} (h : l[i]? = some false) : (l.set i true).count false + 1 = l.count false := by
  induction l generalizing i with
  | nil => simp at h
  | cons x l ih =>
    cases i with
    | zero => simp at h; subst h; simp
    | succ i =>
      have := ih (by simpa using h)
      rw [List.set_cons_succ, List.count_cons, List.count_cons]
      omega
theorem wpAny_inv (I : Array Bool → Act → World → Prop) (hback : ∀ (i : Nat) (o : Oper), ops[i]? = some o → ∀ e ∈ o.after, e.on < i)
    (hstep : ∀ listed a w i, listed.size = ops.size → I listed a w → i < ops.size → listed.getD i true = false → (∀ o, ops[i]? = some o → ∀ e ∈ o.after, Region.binds md e = true → listed.getD e.on false = true) →
      ∀ K, (∀ a' w', I (listed.setIfInBounds i true) a' w' → K a' w') → wpOp P ops Q i K a w)
    (hend : ∀ listed a w, listed.size = ops.size → I listed a w → (∀ i, i < ops.size → listed.getD i false = true) → Q .normal a w) :
    ∀ (fuel : Nat) (listed : Array Bool) (a : Act) (w : World), listed.size = ops.size → listed.toList.count false ≤ fuel → I listed a w → wpAny P md ops Q fuel listed a w := by
  intro fuel
  induction fuel with
  | zero =>
    intro listed a w hs hc hI
    have hr : Region.ready md ops listed = [] := by
      cases h : Region.ready md ops listed with
      | nil => rfl
      | cons i l =>
        obtain ⟨h1, h2, _⟩ := mem_ready (show i ∈ Region.ready md ops listed by rw [h]; exact List.mem_cons_self ..)
        have : false ∈ listed.toList := by
          rw [Array.getD_eq_getD_getElem?, Array.getElem?_eq_getElem (by omega)] at h2
          have h3 : listed[i]'(by omega) = false := h2
          rw [← h3]
          exact Array.getElem_mem_toList _
        have := List.count_pos_iff.2 this
        omega
    exact ⟨hr, hend _ _ _ hs hI (all_listed hs hback hr)⟩
  | succ fuel ih =>
    intro listed a w hs hc hI
    refine ⟨fun hr => hend _ _ _ hs hI (all_listed hs hback hr), fun i hi => ?_⟩
    obtain ⟨h1, h2, h3⟩ := mem_ready hi
    refine hstep listed a w i hs hI h1 h2 h3 _ (fun a' w' h => ih _ _ _ (by simpa using hs) ?_ h)
    have h4 : listed.toList[i]? = some false := by
      rw [Array.getD_eq_getD_getElem?, Array.getElem?_eq_getElem (by omega)] at h2
      rw [Array.getElem?_toList, Array.getElem?_eq_getElem (by omega)]
      exact congrArg some h2
    have := count_set h4
    rw [Array.toList_setIfInBounds]
    omega
theorem wpOp_of {i : Nat} {o : Oper} {K : Act → World → Prop} {a : Act} {w : World} (ho : ops[i]? = some o) (hg : o.guard = none) (h : o.wp P a w K Q) : wpOp P ops Q i K a w := by
  have hw : Region.wanted o (yielded ops a.tmps) = true := by simp [Region.wanted, hg]
  unfold wpOp
  rw [ho]
  simp only [hw, if_true]
  exact .inl h
end
/-! ### slots -/
theorem eval_put_eq {a : Act} {d : Nat} (v : Value) (h : d < a.tmps.size) : (a.put (some d) v).eval (.tmp d) = v := by
  simp [Act.eval, Act.put, h]
theorem eval_put_ne {a : Act} {d d' : Nat} (v : Value) (h : d ≠ d') : (a.put (some d) v).eval (.tmp d') = a.eval (.tmp d') := Act.eval_put (fun x hx e => h (by injection hx with hx; injection e with e; exact hx.trans e.symm))
theorem put_size (a : Act) (d : Option Nat) (v : Value) : (a.put d v).tmps.size = a.tmps.size := by cases d <;> simp [Act.put]
/-! ### a map that is written -/
theorem mem_modify {es : Array MapEntry} {i : Nat} {f : MapEntry → MapEntry} {x : MapEntry} (h : x ∈ (es.modify i f).toList) : x ∈ es.toList ∨ ∃ e, es[i]? = some e ∧ x = f e := by
  obtain ⟨j, hj⟩ := List.getElem?_of_mem h
  rw [Array.getElem?_toList, Array.getElem?_modify] at hj
  split at hj
  · rename_i e
    subst e
    cases he : es[i]? with
    | none => rw [he] at hj; cases hj
    | some e => rw [he] at hj; injection hj with hj; exact .inr ⟨e, rfl, hj.symm⟩
  · exact .inl (List.mem_of_getElem? (by rw [Array.getElem?_toList]; exact hj))
theorem run_upd {w : World} {r clock : Nat} {es : Array MapEntry} (hb : w.heap[r]? = some (.map es clock)) (hk : ∀ x ∈ es.toList, ∃ s, x.key = .string s) (s : ByteArray) (v : Value) :
    ∃ es' clock', (Instr.mapUpdate 48 (.map (some r)) (.string s) v).run Tryz.prog w = .ok () { w with heap := w.heap.setIfInBounds r (.map es' clock') } ∧ (∀ x ∈ es'.toList, x ∈ es.toList ∨ (x.key = .string s ∧ x.val = v)) ∧ (∃ x ∈ es'.toList, x.key = .string s) ∧
      ∀ k, (∃ x ∈ es.toList, x.key = k) → ∃ x ∈ es'.toList, x.key = k := by
  have hm := Tryz.underlying48
  have hs := Tryz.underlying9
  have hkey : MapKept.IsKey .string (.string s) := by simp [MapKept.IsKey]
  have hc := MapKept.run_checkKey (w := w) hs hkey false 9999
  have hall : ∀ x ∈ es.toList, MapKept.IsKey .string x.key := fun x hx => by
    obtain ⟨s', e⟩ := hk x hx
    rw [e]; simp [MapKept.IsKey]
  rcases MapKept.findNow_spec hkey es.toList 0 hall with ⟨g1, g2⟩ | ⟨j, e, g1, g2, g3⟩
  · refine ⟨es.push { key := .string s, val := v, born := clock }, clock + 1, ?_, fun x hx => ?_, ⟨{ key := .string s, val := v, born := clock }, by simp, rfl⟩, fun k ⟨x, hx, e⟩ => ⟨x, by simp [hx], e⟩⟩
    · simp [Instr.mapUpdate, run_underlying hm, MapKept.run_getObj_map hb, hc, MapKept.run_findKey hs g1, MapKept.run_setObj_map _ hb, Result.andThen]
    · simp only [Array.toList_push, List.mem_append, List.mem_singleton] at hx
      rcases hx with hx | rfl
      · exact .inl hx
      · exact .inr ⟨rfl, rfl⟩
  · have hej : es[j]? = some e := by rw [Array.getElem?_toList] at g2; simpa using g2
    refine ⟨es.modify j fun e => { e with key := .string s, val := v }, clock, ?_, fun x hx => ?_, ?_, fun k ⟨x, hx, ek⟩ => ?_⟩
    · simp [Instr.mapUpdate, run_underlying hm, MapKept.run_getObj_map hb, hc, MapKept.run_findKey hs g1, MapKept.run_setObj_map _ hb, Result.andThen, hej, g3, Instr.keyThatStays, Instr.sameBits]
    · rcases mem_modify hx with h | ⟨e', _, rfl⟩
      · exact .inl h
      · exact .inr ⟨rfl, rfl⟩
    · refine ⟨{ e with key := .string s, val := v }, ?_, rfl⟩
      refine List.mem_of_getElem? (i := j) ?_
      rw [Array.getElem?_toList, Array.getElem?_modify, if_pos rfl, hej]; rfl
    · obtain ⟨i, hi⟩ := List.getElem?_of_mem hx
      rw [Array.getElem?_toList] at hi
      by_cases hij : j = i
      · subst hij
        rw [hej] at hi
        injection hi with hi
        subst hi
        refine ⟨{ e with key := .string s, val := v }, ?_, ?_⟩
        · refine List.mem_of_getElem? (i := j) ?_
          rw [Array.getElem?_toList, Array.getElem?_modify, if_pos rfl, hej]; rfl
        · rw [← ek, g3]
      · refine ⟨x, List.mem_of_getElem? (i := i) ?_, ek⟩
        rw [Array.getElem?_toList, Array.getElem?_modify, if_neg hij]
        exact hi
end EW
end Go.Proofs.YtaghlpolljaedaaGreat
/-
  Contracts of layer 8's code: between, atLeast; what one operation does. No condition.
-/
namespace Go.Proofs.YtaghlpolljaedaaGreat
open Go.RowKit
namespace EW
open LX SX RW6 EX
section
variable {w : World} {Z : List Nat} {q : Nat}
theorem In.alloc {s : ByteArray} {v : Value} (h : In w Z q s v) (o : Obj) : In (w.alloc o) Z q s v := h.far ((MM.Far.refl [] w).alloc o) (by simp)
def ShQ (w : World) (Z : List Nat) (q : Nat) (s : ByteArray) (e : Ending) (w' : World) : Prop := ∃ u, e = .returned u ∧ IsSh w' Z q s u ∧ MM.Far [] w w'
theorem between_any (hz : ∀ b ∈ Z, b < w.heap.size) {s : ByteArray} {v : Value} (hI : In w Z q s v) : Calls Tryz.prog 41 #[num (least s : Nat), num (most s), v] w (ShQ w Z q s) := by
  obtain ⟨f, l, m, rfl⟩ := hI.func
  have B1 := ((bx_new 3 (num (least s : Nat)) rfl hz).alloc (.cells #[num (most s)] 3)).alloc (.cells #[.func (.func f) l m] 85)
  have B2 := (bx_new 3 (num (most s)) (sz_alloc w (.cells #[num (least s : Nat)] 3)) (z_alloc hz)).alloc (.cells #[.func (.func f) l m] 85)
  have B3 := bx_new 85 (.func (.func f) l m) (by rw [sz_alloc, sz_alloc]) (z_alloc (z_alloc hz) : ∀ b ∈ Z, b < ((w.alloc (.cells #[num (least s : Nat)] 3)).alloc (.cells #[num (most s)] 3)).heap.size)
  have HI := Lib.hid (IsSh.btw (((hI.alloc (.cells #[num (least s : Nat)] 3)).alloc (.cells #[num (most s)] 3)).alloc (.cells #[.func (.func f) l m] 85)) B1 B2 B3)
  clear hI B1 B2 B3 hz
  obtain ⟨ls, hls⟩ : ∃ ls : Int, ((least s : Nat) : Int) = ls := ⟨_, rfl⟩
  obtain ⟨ms, hms⟩ : ∃ ms : Int, most s = ms := ⟨_, rfl⟩
  rw [hls, hms] at HI ⊢
  clear hls hms
  unfold num ptr at *
  go_enter Tryz.func41, Tryz.ntmps41
  go_wp2
  go_ret
  exact ⟨_, rfl, HI.out, (((MM.Far.refl [] w).alloc _).alloc _).alloc _⟩
theorem atLeast_any (hz : ∀ b ∈ Z, b < w.heap.size) {s : ByteArray} {v : Value} (hI : In w Z q s v) (hm : most s = 9223372036854775807) : Calls Tryz.prog 44 #[num (least s : Nat), v] w (ShQ w Z q s) := by
  have HC := Lib.hid (between_any hz hI)
  rw [hm] at HC
  obtain ⟨f, l, m, rfl⟩ := hI.func
  clear hI hz hm
  obtain ⟨ls, hls⟩ : ∃ ls : Int, ((least s : Nat) : Int) = ls := ⟨_, rfl⟩
  rw [hls] at HC ⊢
  clear hls
  unfold num at *
  go_enter Tryz.func44, Tryz.ntmps44
  go_wp2_with (first
    | (go_at_call 41; (with_reducible refine HC.out.mono ?_); rintro e w1 ⟨u, rfl, hI1, hF1⟩; have HI1 := Lib.hid hI1; have HF1 := Lib.hid hF1; clear hI1 hF1; obtain ⟨f1, l1, m1, rfl⟩ : ∃ f l m, u = .func (.func f) l m := by cases HI1.out <;> exact ⟨_, _, _, rfl⟩))
  go_ret
  exact ⟨_, rfl, HI1.out, HF1.out⟩
end
/-! ### one operation -/
section
variable {o : Oper} {a : Act} {w : World} {K : Act → World → Prop} {Q : Exit → Act → World → Prop}
theorem wp_val {v : Value} {w' : World} (hr : (execOp a.eval o).run Tryz.prog w = .ok (.value v) w') (h : K (a.put o.dst v) w') : o.wp Tryz.prog a w K Q := by
  unfold Oper.wp
  rw [hr]
  exact h
theorem wp_load {x : Operand} {p : Addr} {v : Value} (hop : o.op = .load 44 x) (he : a.eval x = .pointer (some p)) (hc : w.cell? p = some v) (h : K (a.put o.dst v) w) : o.wp Tryz.prog a w K Q := by
  have hag : (isAgg 44).run Tryz.prog w = .ok false w := by kernel_rfl
  refine wp_val ?_ h
  simp only [execOp, hop, he]
  simp [go_sem, hc, hag]
theorem wp_func {f : FuncId} {first cap : Array Operand} (hop : o.op = .makeFunc (.func f) first cap) (h : K (a.put o.dst (.func (.func f) (first.map a.eval) (cap.map a.eval))) w) : o.wp Tryz.prog a w K Q := by
  refine wp_val (v := .func (.func f) (first.map a.eval) (cap.map a.eval)) (w' := w) ?_ h
  simp only [execOp, hop]
  rfl
theorem wp_mkmap (hop : o.op = .makeMap 48 none) (h : K (a.put o.dst (.map (some w.heap.size))) (w.alloc (.map #[] 0))) : o.wp Tryz.prog a w K Q := by
  refine wp_val (v := .map (some w.heap.size)) (w' := w.alloc (.map #[] 0)) ?_ h
  simp only [execOp, hop]
  rfl
theorem wp_ins {m k x : Operand} {w' : World} (hop : o.op = .insert 48 m k x) (hr : (Instr.mapUpdate 48 (a.eval m) (a.eval k) (a.eval x)).run Tryz.prog w = .ok () w') (h : K (a.put o.dst undef) w') : o.wp Tryz.prog a w K Q := by
  have he : (execOp a.eval o).run Tryz.prog w = .ok .skip w' := by
    simp only [execOp, hop]
    rw [Sem.run_bind, hr]
    rfl
  unfold Oper.wp
  rw [he]
  exact h
theorem wp_move {x : Operand} (hop : o.op = .move x ∨ o.op = .assign x) (h : K (a.put o.dst (a.eval x)) w) : o.wp Tryz.prog a w K Q := by
  refine wp_val (v := a.eval x) (w' := w) ?_ h
  rcases hop with hop | hop <;> simp only [execOp, hop] <;> rfl
theorem wp_call {f : FuncId} {xs : Array Operand} (hcf : (execOp a.eval o).run Tryz.prog w = .ok (.enter f (xs.map a.eval)) w)
    (h : Calls Tryz.prog f (xs.map a.eval) w fun e w' => ∃ v, e = .returned v ∧ K (a.put o.dst v) w') : o.wp Tryz.prog a w K Q := by
  unfold Oper.wp
  rw [hcf]
  refine Calls.mono h ?_
  rintro e w' ⟨v, rfl, hv⟩
  exact hv
end
end EW
end Go.Proofs.YtaghlpolljaedaaGreat
/-
  Layer 8's map of shapes: what holds while it is filled, in whatever order. No condition.
-/
namespace Go.Proofs.YtaghlpolljaedaaGreat
open Go.RowKit
namespace EW
open LX SX RW6 EX
inductive Kd where
  | map
  | val (d : Nat) (v : Value)
  | sh (d : Nat) (s : ByteArray)
  | ins (s : ByteArray)
  | mv (d : Nat)
def slotOf : Kd → Option Nat
  | .map => some 3
  | .val d _ => some d
  | .sh d _ => some d
  | .ins _ => none
  | .mv d => some d
def kds (q bx : Nat) : List Kd := [
  .map,
  .sh 4 nQuote,
  .ins nQuote,
  .val 5 (ptr q),
  .val 6 (.func (.func 43) #[ptr q] #[]),
  .sh 7 nIf,
  .ins nIf,
  .val 8 (ptr q),
  .val 9 (.func (.func 45) #[ptr q] #[]),
  .sh 10 nLambda,
  .ins nLambda,
  .val 11 (ptr q),
  .val 12 (.func (.func 46) #[ptr q] #[]),
  .sh 13 nSet,
  .ins nSet,
  .val 14 (.func (.func 47) #[] #[ptr bx]),
  .sh 15 nBegin,
  .ins nBegin,
  .val 16 (ptr q),
  .val 17 (.func (.func 49) #[ptr q] #[]),
  .sh 18 nDefine,
  .ins nDefine,
  .val 19 (ptr q),
  .val 20 (.func (.func 50) #[ptr q] #[]),
  .sh 21 nLet,
  .ins nLet,
  .val 22 (ptr q),
  .val 23 (.func (.func 51) #[ptr q] #[]),
  .sh 24 nStar,
  .ins nStar,
  .val 25 (.func (.func 52) #[] #[ptr bx]),
  .sh 26 nCond,
  .ins nCond,
  .ins nElse,
  .val 27 (.func (.func 56) #[] #[ptr bx]),
  .ins nAnd,
  .val 28 (.func (.func 58) #[] #[ptr bx]),
  .ins nOr,
  .val 29 (.func (.func 60) #[] #[ptr bx]),
  .sh 30 nWhen,
  .ins nWhen,
  .val 31 (.func (.func 64) #[] #[ptr bx]),
  .sh 32 nUnless,
  .ins nUnless,
  .mv 33,
  .mv 2]
/-- What holds, when an operation has been done. -/
def G (mbo : Option Nat) (es : Array MapEntry) (Z : List Nat) (q : Nat) (a : Act) (w : World) : Kd → Prop
  | .map => ∃ mb, mbo = some mb ∧ a.eval (.tmp 3) = .map (some mb)
  | .val d v => a.eval (.tmp d) = v
  | .sh d s => IsSh w (mbo.toList ++ Z) q s (a.eval (.tmp d))
  | .ins s => ∃ x ∈ es.toList, x.key = .string s
  | .mv d => ∃ mb, mbo = some mb ∧ a.eval (.tmp d) = .map (some mb)
structure InvB (w1 : World) (Z : List Nat) (q bx : Nat) (mbo : Option Nat) (es : Array MapEntry) (clock : Nat) (listed : Array Bool) (a : Act) (w : World) : Prop where
  size : a.tmps.size = 34
  defs : a.defers = []
  t1 : a.eval (.tmp 1) = ptr bx
  far : MM.Far [] w1 w
  none_ : listed.getD 0 false = false → mbo = none
  mp : ∀ mb, mbo = some mb → w1.heap.size ≤ mb ∧ w.heap[mb]? = some (.map es clock) ∧ ∀ x ∈ es.toList, ∃ s, x.key = .string s ∧ reserved s = true ∧ IsSh w (mb :: Z) q s x.val
  emp : mbo = none → es.toList = []
  ea : ∀ j k, (kds q bx)[j]? = some k → listed.getD j false = true → G mbo es Z q a w k
def Inv (w1 : World) (Z : List Nat) (q bx : Nat) (listed : Array Bool) (a : Act) (w : World) : Prop := ∃ mbo es clock, InvB w1 Z q bx mbo es clock listed a w
theorem slots_apart (q bx : Nat) : ∀ (i j : Nat) (ki kj : Kd) (d : Nat), (kds q bx)[i]? = some ki → (kds q bx)[j]? = some kj → slotOf ki = some d → slotOf kj = some d → i = j := by
  have hl : (kds q bx).map slotOf = [some 3, some 4, none, some 5, some 6, some 7, none, some 8, some 9, some 10, none, some 11, some 12, some 13, none, some 14, some 15, none, some 16, some 17, some 18, none, some 19, some 20, some 21, none, some 22, some 23, some 24, none, some 25, some 26, none, none, some 27, none, some 28, none, some 29, some 30, none, some 31, some 32, none, some 33, some 2] := rfl
  intro i j ki kj d h1 h2 h3 h4
  have g1 : ([some 3, some 4, none, some 5, some 6, some 7, none, some 8, some 9, some 10, none, some 11, some 12, some 13, none, some 14, some 15, none, some 16, some 17, some 18, none, some 19, some 20, some 21, none, some 22, some 23, some 24, none, some 25, some 26, none, none, some 27, none, some 28, none, some 29, some 30, none, some 31, some 32, none, some 33, some 2] : List (Option Nat))[i]? = some (some d) := by rw [← hl, List.getElem?_map, h1]; exact congrArg some h3
  have g2 : ([some 3, some 4, none, some 5, some 6, some 7, none, some 8, some 9, some 10, none, some 11, some 12, some 13, none, some 14, some 15, none, some 16, some 17, some 18, none, some 19, some 20, some 21, none, some 22, some 23, some 24, none, some 25, some 26, none, none, some 27, none, some 28, none, some 29, some 30, none, some 31, some 32, none, some 33, some 2] : List (Option Nat))[j]? = some (some d) := by rw [← hl, List.getElem?_map, h2]; exact congrArg some h4
  have hi := (List.getElem?_eq_some_iff.1 g1).1
  have hj := (List.getElem?_eq_some_iff.1 g2).1
  have key : ∀ i j : Fin 46, ∀ d, ([some 3, some 4, none, some 5, some 6, some 7, none, some 8, some 9, some 10, none, some 11, some 12, some 13, none, some 14, some 15, none, some 16, some 17, some 18, none, some 19, some 20, some 21, none, some 22, some 23, some 24, none, some 25, some 26, none, none, some 27, none, some 28, none, some 29, some 30, none, some 31, some 32, none, some 33, some 2] : List (Option Nat))[i.val]? = some (some d) → ([some 3, some 4, none, some 5, some 6, some 7, none, some 8, some 9, some 10, none, some 11, some 12, some 13, none, some 14, some 15, none, some 16, some 17, some 18, none, some 19, some 20, some 21, none, some 22, some 23, some 24, none, some 25, some 26, none, none, some 27, none, some 28, none, some 29, some 30, none, some 31, some 32, none, some 33, some 2] : List (Option Nat))[j.val]? = some (some d) → i = j := by
    have hd : ∀ i j : Fin 46, ((([some 3, some 4, none, some 5, some 6, some 7, none, some 8, some 9, some 10, none, some 11, some 12, some 13, none, some 14, some 15, none, some 16, some 17, some 18, none, some 19, some 20, some 21, none, some 22, some 23, some 24, none, some 25, some 26, none, none, some 27, none, some 28, none, some 29, some 30, none, some 31, some 32, none, some 33, some 2] : List (Option Nat))[i.val]?).getD none).isSome = true → (([some 3, some 4, none, some 5, some 6, some 7, none, some 8, some 9, some 10, none, some 11, some 12, some 13, none, some 14, some 15, none, some 16, some 17, some 18, none, some 19, some 20, some 21, none, some 22, some 23, some 24, none, some 25, some 26, none, none, some 27, none, some 28, none, some 29, some 30, none, some 31, some 32, none, some 33, some 2] : List (Option Nat))[i.val]?).getD none = (([some 3, some 4, none, some 5, some 6, some 7, none, some 8, some 9, some 10, none, some 11, some 12, some 13, none, some 14, some 15, none, some 16, some 17, some 18, none, some 19, some 20, some 21, none, some 22, some 23, some 24, none, some 25, some 26, none, none, some 27, none, some 28, none, some 29, some 30, none, some 31, some 32, none, some 33, some 2] : List (Option Nat))[j.val]?).getD none → i = j := by decide
    intro i j d a b
    exact hd i j (by rw [a]; rfl) (by rw [a, b])
  have := key ⟨i, hi⟩ ⟨j, hj⟩ d g1 g2
  exact congrArg Fin.val this
theorem getD_set {l : Array Bool} {i j : Nat} (h : (l.setIfInBounds i true).getD j false = true) : j = i ∨ l.getD j false = true := by
  by_cases e : j = i
  · exact .inl e
  · right
    rw [Array.getD_eq_getD_getElem?, Array.getElem?_setIfInBounds_ne (by omega)] at h
    rw [Array.getD_eq_getD_getElem?]; exact h
theorem getD_set0 {l : Array Bool} {i : Nat} (hi : i < l.size) (h : (l.setIfInBounds i true).getD 0 false = false) : l.getD 0 false = false ∧ i ≠ 0 := by
  by_cases e : i = 0
  · subst e
    rw [Array.getD_eq_getD_getElem?, Array.getElem?_setIfInBounds_self_of_lt hi] at h
    cases h
  · rw [Array.getD_eq_getD_getElem?, Array.getElem?_setIfInBounds_ne (by omega)] at h
    rw [Array.getD_eq_getD_getElem?]; exact ⟨h, e⟩
section
variable {w1 w w' : World} {Z : List Nat} {q bx : Nat} {mbo : Option Nat} {es : Array MapEntry} {clock : Nat} {listed : Array Bool} {a : Act}
theorem G.put {k : Kd} {d : Nat} (v : Value) (h : G mbo es Z q a w k) (hs : slotOf k ≠ some d) : G mbo es Z q (a.put (some d) v) w k := by
  cases k with
  | map =>
    obtain ⟨mb, e, h⟩ := h
    exact ⟨mb, e, by rw [eval_put_ne v (fun e => hs (congrArg some e.symm))]; exact h⟩
  | val d' v' => exact (eval_put_ne v (fun e => hs (congrArg some e.symm))).trans h
  | sh d' s => show IsSh _ _ _ _ _; rw [eval_put_ne v (fun e => hs (congrArg some e.symm))]; exact h
  | ins s => exact h
  | mv d' =>
    obtain ⟨mb, e, h⟩ := h
    exact ⟨mb, e, by rw [eval_put_ne v (fun e => hs (congrArg some e.symm))]; exact h⟩
theorem G.far {k : Kd} (h : G mbo es Z q a w k) (f : MM.Far [] w w') : G mbo es Z q a w' k := by
  cases k with
  | sh d' s => exact IsSh.far h f (by simp)
  | _ => exact h
/-- An operation that makes a value, in a world that has grown. -/
theorem InvB.val {i d : Nat} {k : Kd} {v : Value} (h : InvB w1 Z q bx mbo es clock listed a w) (hl : listed.size = 46) (hi : i < 46) (h0 : i ≠ 0) (hk : (kds q bx)[i]? = some k) (hd : slotOf k = some d) (hd1 : d ≠ 1) (f : MM.Far [] w w') (hG : G mbo es Z q (a.put (some d) v) w' k) :
    InvB w1 Z q bx mbo es clock (listed.setIfInBounds i true) (a.put (some d) v) w' := by
  refine ⟨(put_size ..).trans h.size, h.defs, (eval_put_ne v (fun e => hd1 e)).trans h.t1, h.far.trans f (by simp), fun e => h.none_ (getD_set0 (by omega) e).1, fun mb e => ?_, ?_, fun j kj hj hlj => ?_⟩
  · obtain ⟨g1, g2, g3⟩ := h.mp mb e
    have hlt := (Array.getElem?_eq_some_iff.1 g2).1
    refine ⟨g1, (f.block mb hlt (by simp)).trans g2, fun x hx => ?_⟩
    obtain ⟨s, e1, e2, e3⟩ := g3 x hx
    exact ⟨s, e1, e2, e3.far f (by simp)⟩
  · exact h.emp
  · rcases getD_set hlj with rfl | hlj
    · rw [hk] at hj
      injection hj with hj
      subst hj
      exact hG
    · by_cases hji : j = i
      · subst hji
        rw [hk] at hj
        injection hj with hj
        subst hj
        exact hG
      · exact ((h.ea j kj hj hlj).far f).put v (fun e => hji (slots_apart q bx j i kj k d hj hk e hd))
/-- The map is made. -/
theorem InvB.made (h : InvB w1 Z q bx mbo es clock listed a w) (hl : listed.size = 46) (h0 : listed.getD 0 false = false) :
    InvB w1 Z q bx (some w.heap.size) #[] 0 (listed.setIfInBounds 0 true) (a.put (some 3) (.map (some w.heap.size))) (w.alloc (.map #[] 0)) := by
  have f := (MM.Far.refl [] w).alloc (.map #[] 0)
  obtain rfl := h.none_ h0
  refine ⟨(put_size ..).trans h.size, h.defs, (eval_put_ne _ (by decide)).trans h.t1, h.far.trans f (by simp), fun e => absurd rfl (getD_set0 (by omega) e).2, fun mb e => ?_, (fun e => nomatch e), fun j kj hj hlj => ?_⟩
  · injection e with e
    subst e
    exact ⟨h.far.size, by show (w.heap.push _)[w.heap.size]? = _; simp, fun x hx => by simp at hx⟩
  · have hk0 : (kds q bx)[0]? = some .map := rfl
    have hmap : ∀ kj, kj = Kd.map → G (some w.heap.size) #[] Z q (a.put (some 3) (.map (some w.heap.size))) (w.alloc (.map #[] 0)) kj := fun kj e => by
      subst e
      exact ⟨_, rfl, eval_put_eq _ (by rw [h.size]; decide)⟩
    rcases getD_set hlj with rfl | hlj
    · rw [hk0] at hj
      injection hj with hj
      exact hmap kj hj.symm
    · by_cases hji : j = 0
      · subst hji
        rw [h0] at hlj; cases hlj
      · have hold := h.ea j kj hj hlj
        have hne : slotOf kj ≠ some 3 := fun e => hji (slots_apart q bx j 0 kj .map 3 hj hk0 e rfl)
        have hnew : G (some w.heap.size) #[] Z q a (w.alloc (.map #[] 0)) kj := by
          cases kj with
          | map => obtain ⟨mb, e, _⟩ := hold; cases e
          | val d v => exact hold
          | sh d s =>
            refine (IsSh.more (Z' := w.heap.size :: Z) hold (fun b hb => ?_)).far f (by simp)
            rcases List.mem_cons.1 hb with rfl | hb
            · exact .inr (Nat.le_refl _)
            · exact .inl (by simpa using hb)
          | ins s =>
            exfalso
            obtain ⟨x, hx, _⟩ := hold
            rw [h.emp rfl] at hx; cases hx
          | mv d => obtain ⟨mb, e, _⟩ := hold; cases e
        exact hnew.put _ hne
theorem far_obj (w : World) (mb : Nat) (o : Obj) : MM.Far [mb] w { w with heap := w.heap.setIfInBounds mb o } :=
  ⟨rfl, rfl, rfl, by show _ ≤ (w.heap.setIfInBounds mb o).size; simp, fun b _ hn => by show (w.heap.setIfInBounds mb o)[b]? = _; rw [Array.getElem?_setIfInBounds_ne (by simp at hn; omega)]⟩
/-- An entry is written. -/
theorem InvB.ins {i mb : Nat} {s : ByteArray} {v : Value} (h : InvB w1 Z q bx mbo es clock listed a w) (hl : listed.size = 46) (hi : i < 46) (hk : (kds q bx)[i]? = some (.ins s)) (hres : reserved s = true) (hmb : mbo = some mb) (hsh : IsSh w (mb :: Z) q s v) :
    ∃ w', (Instr.mapUpdate 48 (.map (some mb)) (.string s) v).run Tryz.prog w = .ok () w' ∧ Inv w1 Z q bx (listed.setIfInBounds i true) a w' := by
  subst hmb
  obtain ⟨g1, g2, g3⟩ := h.mp mb rfl
  obtain ⟨es', clock', hr, u1, u2, u3⟩ := run_upd g2 (fun x hx => by obtain ⟨s, e, _⟩ := g3 x hx; exact ⟨s, e⟩) s v
  have f := far_obj w mb (.map es' clock')
  have hlt := (Array.getElem?_eq_some_iff.1 g2).1
  have hfZ : ∀ b ∈ [mb], b < w.heap.size → b ∈ mb :: Z := fun b hb _ => by simp at hb; simp [hb]
  refine ⟨_, hr, some mb, es', clock', ⟨h.size, h.defs, h.t1, h.far.trans f (fun b hb hl => by simp at hb; omega), fun e => h.none_ (getD_set0 (by omega) e).1, fun mb' e => ?_, (fun e => nomatch e), fun j kj hj hlj => ?_⟩⟩
  · injection e with e
    subst e
    refine ⟨g1, by show (w.heap.setIfInBounds mb _)[mb]? = _; rw [Array.getElem?_setIfInBounds_self_of_lt hlt], fun x hx => ?_⟩
    rcases u1 x hx with hx | ⟨e1, e2⟩
    · obtain ⟨s', e1, e2, e3⟩ := g3 x hx
      exact ⟨s', e1, e2, e3.far f hfZ⟩
    · exact ⟨s, e1, hres, by rw [e2]; exact hsh.far f hfZ⟩
  · have hold : j = i ∨ G (some mb) es Z q a w kj := (getD_set hlj).imp id (h.ea j kj hj)
    rcases hold with rfl | hold
    · rw [hk] at hj
      injection hj with hj
      subst hj
      exact u2
    · cases kj with
      | sh d s => exact IsSh.far hold f hfZ
      | ins s => exact u3 _ hold
      | map => exact hold
      | val d v => exact hold
      | mv d => exact hold
end
end EW
end Go.Proofs.YtaghlpolljaedaaGreat
/-
  Contract of layer 8's code: allShapes. No condition.
-/
namespace Go.Proofs.YtaghlpolljaedaaGreat
open Go.RowKit
namespace EW
open LX SX RW6 EX
section
variable {w1 w : World} {Z : List Nat} {q bx : Nat} {mbo : Option Nat} {es : Array MapEntry} {clock : Nat} {listed : Array Bool} {a : Act}
theorem InvB.zc (h : InvB w1 Z q bx mbo es clock listed a w) : ∀ b ∈ mbo.toList ++ Z, b ∈ Z ∨ w1.heap.size ≤ b := fun b hb => by
  rcases List.mem_append.1 hb with hb | hb
  · exact .inr (h.mp b (by simpa using hb)).1
  · exact .inl hb
theorem InvB.hz (h : InvB w1 Z q bx mbo es clock listed a w) (hz : ∀ b ∈ Z, b < w1.heap.size) : ∀ b ∈ mbo.toList ++ Z, b < w.heap.size := fun b hb => by
  rcases List.mem_append.1 hb with hb | hb
  · exact (Array.getElem?_eq_some_iff.1 (h.mp b (by simpa using hb)).2.1).1
  · exact Nat.lt_of_lt_of_le (hz b hb) h.far.size
theorem InvB.box (h : InvB w1 Z q bx mbo es clock listed a w) (hB : Bx w1 Z bx 44 (ptr q)) : Bx w (mbo.toList ++ Z) bx 44 (ptr q) := (hB.more h.zc).far h.far (by simp)
end
theorem back_of (ops : Array Oper) (h : ((List.range ops.size).all fun i => match ops[i]? with
    | some o => o.after.all (fun e => decide (e.on < i))
    | none => true) = true) : ∀ (i : Nat) (o : Oper), ops[i]? = some o → ∀ e ∈ o.after, e.on < i := by
  intro i o ho e he
  have hi := (Array.getElem?_eq_some_iff.1 ho).1
  have h1 := List.all_eq_true.1 h i (List.mem_range.2 hi)
  rw [ho] at h1
  have h1 : (o.after.all fun e => decide (e.on < i)) = true := h1
  simpa using Array.all_eq_true_iff_forall_mem.1 h1 e he
set_option maxRecDepth 20000 in
set_option maxHeartbeats 8000000 in
theorem allShapes_any (w : World) {Z : List Nat} {q : Nat} (hz : ∀ b ∈ Z, b < w.heap.size) :
    Calls Tryz.prog 26 #[ptr q] w fun e w' => ∃ mb, e = .returned (.map (some mb)) ∧ MapOk w' Z q mb ∧ MM.Far [] w w' := by
  have HB1 := Lib.hid (show Bx (w.alloc (.cells #[ptr q] 44)).drew Z w.heap.size 44 (ptr q) from (bx_new 44 (ptr q) rfl hz).far ((MM.Far.refl [] _).drew) (by simp))
  have HZ := Lib.hid (show ∀ b ∈ Z, b < (w.alloc (.cells #[ptr q] 44)).drew.heap.size from z_alloc hz)
  have HF := Lib.hid (((MM.Far.refl [] w).alloc (.cells #[ptr q] 44)).drew)
  clear hz
  unfold ptr at *
  go_enter Tryz.func26, Tryz.ntmps26
  go_wp2
  refine wp_region_any (by kernel_rfl) ?_
  have eD : ({ (w.alloc (.cells #[.pointer (some ⟨q, 0, none⟩)] 44)) with drawn := (w.alloc (.cells #[.pointer (some ⟨q, 0, none⟩)] 44)).drawn + 1 } : World) = (w.alloc (.cells #[.pointer (some ⟨q, 0, none⟩)] 44)).drew := rfl
  rw [eD]
  clear eD
  generalize (w.alloc (.cells #[.pointer (some ⟨q, 0, none⟩)] 44)).drew = w1 at *
  obtain ⟨bx, hbx⟩ : ∃ bx, w.heap.size = bx := ⟨_, rfl⟩
  rw [hbx] at HB1 ⊢
  refine wpAny_inv (Inv w1 Z q bx) ?back ?step ?fin _ _ _ _ ?size ?count ?init
  case back =>
    exact back_of _ (by kernel_rfl)
  case size => rfl
  case count => exact Nat.le_of_eq (by rfl)
  case init =>
    refine ⟨none, #[], 0, rfl, rfl, rfl, MM.Far.refl _ _, fun _ => rfl, (fun mb e => nomatch e), fun _ => rfl, fun j k _ hl => ?_⟩
    rw [Array.getD_eq_getD_getElem?, Array.getElem?_replicate] at hl
    split at hl <;> cases hl
  case fin =>
    intro listed wA wE hs hI hall
    obtain ⟨mbo, es, clock, hB⟩ := hI
    obtain ⟨mb, rfl, h2⟩ := hB.ea 45 _ rfl (hall 45 (by decide))
    obtain ⟨g1, g2, g3⟩ := hB.mp mb rfl
    have ha2 : wA.tmps[2]?.getD undef = .map (some mb) := by rw [← h2]; simp [Act.eval]
    have HH : Hid (MapOk wE Z q mb) := Lib.hid ⟨fun hm => Nat.lt_irrefl _ (Nat.lt_of_lt_of_le (HZ.out mb hm) g1), es, clock, g2, fun x hx => by
      obtain ⟨s, e1, e2, e3⟩ := g3 x hx
      exact ⟨s, e1, e2, e3.more (fun b hb => .inl (List.mem_cons_of_mem _ hb))⟩, fun s hs => by
      have hs : s ∈ resN := of_decide_eq_true hs
      simp only [resN, List.mem_cons, List.not_mem_nil, or_false] at hs
      rcases hs with rfl | rfl | rfl | rfl | rfl | rfl | rfl | rfl | rfl | rfl | rfl | rfl | rfl | rfl
      · exact hB.ea 2 _ rfl (hall 2 (by decide))
      · exact hB.ea 6 _ rfl (hall 6 (by decide))
      · exact hB.ea 10 _ rfl (hall 10 (by decide))
      · exact hB.ea 14 _ rfl (hall 14 (by decide))
      · exact hB.ea 17 _ rfl (hall 17 (by decide))
      · exact hB.ea 21 _ rfl (hall 21 (by decide))
      · exact hB.ea 25 _ rfl (hall 25 (by decide))
      · exact hB.ea 29 _ rfl (hall 29 (by decide))
      · exact hB.ea 32 _ rfl (hall 32 (by decide))
      · exact hB.ea 33 _ rfl (hall 33 (by decide))
      · exact hB.ea 35 _ rfl (hall 35 (by decide))
      · exact hB.ea 37 _ rfl (hall 37 (by decide))
      · exact hB.ea 40 _ rfl (hall 40 (by decide))
      · exact hB.ea 43 _ rfl (hall 43 (by decide))⟩
    have HFE := Lib.hid (HF.out.trans hB.far (by simp))
    have HD := Lib.hid hB.defs
    clear g1 g2 g3 hB hall h2
    go_wp2
    refine bodyPost_ret (v := .map (some mb)) ?_ HD.out ⟨mb, rfl, HH.out, HFE.out⟩
    simp only [results, Tryz.results26]
    simp [ha2, go_sem]
  case step =>
    intro listed a w i hs hI hi hu hdep K hK
    have hs46 : listed.size = 46 := hs
    have hi46 : i < 46 := hi
    obtain ⟨mbo, es, clock, hB⟩ := hI
    have hBx := hB.box HB1.out
    have hzc := hB.hz HZ.out
    have hc := hBx.at
    clear hi hs
    rcases (show i = 0 ∨ i = 1 ∨ i = 2 ∨ i = 3 ∨ i = 4 ∨ i = 5 ∨ i = 6 ∨ i = 7 ∨ i = 8 ∨ i = 9 ∨ i = 10 ∨ i = 11 ∨ i = 12 ∨ i = 13 ∨ i = 14 ∨ i = 15 ∨ i = 16 ∨ i = 17 ∨ i = 18 ∨ i = 19 ∨ i = 20 ∨ i = 21 ∨ i = 22 ∨ i = 23 ∨ i = 24 ∨ i = 25 ∨ i = 26 ∨ i = 27 ∨ i = 28 ∨ i = 29 ∨ i = 30 ∨ i = 31 ∨ i = 32 ∨ i = 33 ∨ i = 34 ∨ i = 35 ∨ i = 36 ∨ i = 37 ∨ i = 38 ∨ i = 39 ∨ i = 40 ∨ i = 41 ∨ i = 42 ∨ i = 43 ∨ i = 44 ∨ i = 45 by omega) with rfl | rfl | rfl | rfl | rfl | rfl | rfl | rfl | rfl | rfl | rfl | rfl | rfl | rfl | rfl | rfl | rfl | rfl | rfl | rfl | rfl | rfl | rfl | rfl | rfl | rfl | rfl | rfl | rfl | rfl | rfl | rfl | rfl | rfl | rfl | rfl | rfl | rfl | rfl | rfl | rfl | rfl | rfl | rfl | rfl | rfl
    · have h0 : listed.getD 0 false = false := by rw [Array.getD_eq_getD_getElem?, Array.getElem?_eq_getElem (by omega)] at hu ⊢; exact hu
      exact wpOp_of rfl rfl (wp_mkmap rfl (hK _ _ ⟨_, _, _, hB.made hs46 h0⟩))
    · have h5 : a.eval (.func 42) = .func (.func 42) #[] #[] := rfl
      refine wpOp_of rfl rfl (wp_call (f := 41) (xs := #[.const (.int .i64 1), .const (.int .i64 1), .func 42]) (by kernel_rfl) ?_)
      have e1 : (#[.const (.int .i64 1), .const (.int .i64 1), .func 42] : Array Operand).map a.eval = #[num (least nQuote : Nat), num (most nQuote), .func (.func 42) #[] #[]] := by
        simp only [List.map_toArray, List.map_cons, List.map_nil, h5]
        rfl
      rw [e1]
      refine (between_any (q := q) hzc (In.quote)).mono ?_
      rintro e w' ⟨u, rfl, hSh, hF⟩
      refine ⟨u, rfl, hK _ _ ⟨_, _, _, hB.val hs46 hi46 (by decide) rfl rfl (by decide) hF ?_⟩⟩
      show IsSh _ _ _ _ _
      rw [eval_put_eq _ (by rw [hB.size]; decide)]
      exact hSh
    · obtain ⟨mb, rfl, h3⟩ := hB.ea 0 _ rfl (hdep _ rfl ⟨0, .data⟩ (by simp) rfl)
      have h4 : IsSh w (mb :: Z) q nQuote (a.eval (.tmp 4)) := hB.ea 1 _ rfl (hdep _ rfl ⟨1, .data⟩ (by simp) rfl)
      obtain ⟨w', hr, hInv⟩ := hB.ins hs46 hi46 (s := nQuote) rfl rfl rfl h4
      refine wpOp_of rfl rfl (wp_ins rfl (w' := w') ?_ (hK _ _ hInv))
      rw [h3]
      exact hr
    · exact wpOp_of rfl rfl (wp_load rfl hB.t1 hc (hK _ _ ⟨_, _, _, hB.val hs46 hi46 (by decide) rfl rfl (by decide) (MM.Far.refl _ _) (eval_put_eq _ (by rw [hB.size]; decide))⟩))
    · have h5 : a.eval (.tmp 5) = ptr q := hB.ea 3 _ rfl (hdep _ rfl ⟨3, .data⟩ (by simp) rfl)
      refine wpOp_of rfl rfl (wp_func rfl ?_)
      have e1 : (#[Operand.tmp 5] : Array Operand).map a.eval = #[ptr q] := by simp only [List.map_toArray, List.map_cons, List.map_nil, h5]
      have e2 : (#[] : Array Operand).map a.eval = #[] := by simp
      rw [e1, e2]
      exact hK _ _ ⟨_, _, _, hB.val hs46 hi46 (by decide) rfl rfl (by decide) (MM.Far.refl _ _) (eval_put_eq _ (by rw [hB.size]; decide))⟩
    · have h5 : a.eval (.tmp 6) = .func (.func 43) #[ptr q] #[] := hB.ea 4 _ rfl (hdep _ rfl ⟨4, .data⟩ (by simp) rfl)
      refine wpOp_of rfl rfl (wp_call (f := 41) (xs := #[.const (.int .i64 2), .const (.int .i64 3), .tmp 6]) (by kernel_rfl) ?_)
      have e1 : (#[.const (.int .i64 2), .const (.int .i64 3), .tmp 6] : Array Operand).map a.eval = #[num (least nIf : Nat), num (most nIf), .func (.func 43) #[ptr q] #[]] := by
        simp only [List.map_toArray, List.map_cons, List.map_nil, h5]
        rfl
      rw [e1]
      refine (between_any (q := q) hzc (In.iff)).mono ?_
      rintro e w' ⟨u, rfl, hSh, hF⟩
      refine ⟨u, rfl, hK _ _ ⟨_, _, _, hB.val hs46 hi46 (by decide) rfl rfl (by decide) hF ?_⟩⟩
      show IsSh _ _ _ _ _
      rw [eval_put_eq _ (by rw [hB.size]; decide)]
      exact hSh
    · obtain ⟨mb, rfl, h3⟩ := hB.ea 0 _ rfl (hdep _ rfl ⟨0, .data⟩ (by simp) rfl)
      have h4 : IsSh w (mb :: Z) q nIf (a.eval (.tmp 7)) := hB.ea 5 _ rfl (hdep _ rfl ⟨5, .data⟩ (by simp) rfl)
      obtain ⟨w', hr, hInv⟩ := hB.ins hs46 hi46 (s := nIf) rfl rfl rfl h4
      refine wpOp_of rfl rfl (wp_ins rfl (w' := w') ?_ (hK _ _ hInv))
      rw [h3]
      exact hr
    · exact wpOp_of rfl rfl (wp_load rfl hB.t1 hc (hK _ _ ⟨_, _, _, hB.val hs46 hi46 (by decide) rfl rfl (by decide) (MM.Far.refl _ _) (eval_put_eq _ (by rw [hB.size]; decide))⟩))
    · have h5 : a.eval (.tmp 8) = ptr q := hB.ea 7 _ rfl (hdep _ rfl ⟨7, .data⟩ (by simp) rfl)
      refine wpOp_of rfl rfl (wp_func rfl ?_)
      have e1 : (#[Operand.tmp 8] : Array Operand).map a.eval = #[ptr q] := by simp only [List.map_toArray, List.map_cons, List.map_nil, h5]
      have e2 : (#[] : Array Operand).map a.eval = #[] := by simp
      rw [e1, e2]
      exact hK _ _ ⟨_, _, _, hB.val hs46 hi46 (by decide) rfl rfl (by decide) (MM.Far.refl _ _) (eval_put_eq _ (by rw [hB.size]; decide))⟩
    · have h5 : a.eval (.tmp 9) = .func (.func 45) #[ptr q] #[] := hB.ea 8 _ rfl (hdep _ rfl ⟨8, .data⟩ (by simp) rfl)
      refine wpOp_of rfl rfl (wp_call (f := 44) (xs := #[.const (.int .i64 2), .tmp 9]) (by kernel_rfl) ?_)
      have e1 : (#[.const (.int .i64 2), .tmp 9] : Array Operand).map a.eval = #[num (least nLambda : Nat), .func (.func 45) #[ptr q] #[]] := by
        simp only [List.map_toArray, List.map_cons, List.map_nil, h5]
        rfl
      rw [e1]
      refine (atLeast_any (q := q) hzc (In.lambda) rfl).mono ?_
      rintro e w' ⟨u, rfl, hSh, hF⟩
      refine ⟨u, rfl, hK _ _ ⟨_, _, _, hB.val hs46 hi46 (by decide) rfl rfl (by decide) hF ?_⟩⟩
      show IsSh _ _ _ _ _
      rw [eval_put_eq _ (by rw [hB.size]; decide)]
      exact hSh
    · obtain ⟨mb, rfl, h3⟩ := hB.ea 0 _ rfl (hdep _ rfl ⟨0, .data⟩ (by simp) rfl)
      have h4 : IsSh w (mb :: Z) q nLambda (a.eval (.tmp 10)) := hB.ea 9 _ rfl (hdep _ rfl ⟨9, .data⟩ (by simp) rfl)
      obtain ⟨w', hr, hInv⟩ := hB.ins hs46 hi46 (s := nLambda) rfl rfl rfl h4
      refine wpOp_of rfl rfl (wp_ins rfl (w' := w') ?_ (hK _ _ hInv))
      rw [h3]
      exact hr
    · exact wpOp_of rfl rfl (wp_load rfl hB.t1 hc (hK _ _ ⟨_, _, _, hB.val hs46 hi46 (by decide) rfl rfl (by decide) (MM.Far.refl _ _) (eval_put_eq _ (by rw [hB.size]; decide))⟩))
    · have h5 : a.eval (.tmp 11) = ptr q := hB.ea 11 _ rfl (hdep _ rfl ⟨11, .data⟩ (by simp) rfl)
      refine wpOp_of rfl rfl (wp_func rfl ?_)
      have e1 : (#[Operand.tmp 11] : Array Operand).map a.eval = #[ptr q] := by simp only [List.map_toArray, List.map_cons, List.map_nil, h5]
      have e2 : (#[] : Array Operand).map a.eval = #[] := by simp
      rw [e1, e2]
      exact hK _ _ ⟨_, _, _, hB.val hs46 hi46 (by decide) rfl rfl (by decide) (MM.Far.refl _ _) (eval_put_eq _ (by rw [hB.size]; decide))⟩
    · have h5 : a.eval (.tmp 12) = .func (.func 46) #[ptr q] #[] := hB.ea 12 _ rfl (hdep _ rfl ⟨12, .data⟩ (by simp) rfl)
      refine wpOp_of rfl rfl (wp_call (f := 41) (xs := #[.const (.int .i64 2), .const (.int .i64 2), .tmp 12]) (by kernel_rfl) ?_)
      have e1 : (#[.const (.int .i64 2), .const (.int .i64 2), .tmp 12] : Array Operand).map a.eval = #[num (least nSet : Nat), num (most nSet), .func (.func 46) #[ptr q] #[]] := by
        simp only [List.map_toArray, List.map_cons, List.map_nil, h5]
        rfl
      rw [e1]
      refine (between_any (q := q) hzc (In.set)).mono ?_
      rintro e w' ⟨u, rfl, hSh, hF⟩
      refine ⟨u, rfl, hK _ _ ⟨_, _, _, hB.val hs46 hi46 (by decide) rfl rfl (by decide) hF ?_⟩⟩
      show IsSh _ _ _ _ _
      rw [eval_put_eq _ (by rw [hB.size]; decide)]
      exact hSh
    · obtain ⟨mb, rfl, h3⟩ := hB.ea 0 _ rfl (hdep _ rfl ⟨0, .data⟩ (by simp) rfl)
      have h4 : IsSh w (mb :: Z) q nSet (a.eval (.tmp 13)) := hB.ea 13 _ rfl (hdep _ rfl ⟨13, .data⟩ (by simp) rfl)
      obtain ⟨w', hr, hInv⟩ := hB.ins hs46 hi46 (s := nSet) rfl rfl rfl h4
      refine wpOp_of rfl rfl (wp_ins rfl (w' := w') ?_ (hK _ _ hInv))
      rw [h3]
      exact hr
    · refine wpOp_of rfl rfl (wp_func rfl ?_)
      have e1 : (#[Operand.tmp 1] : Array Operand).map a.eval = #[ptr bx] := by simp only [List.map_toArray, List.map_cons, List.map_nil, hB.t1]
      have e2 : (#[] : Array Operand).map a.eval = #[] := by simp
      rw [e1, e2]
      exact hK _ _ ⟨_, _, _, hB.val hs46 hi46 (by decide) rfl rfl (by decide) (MM.Far.refl _ _) (eval_put_eq _ (by rw [hB.size]; decide))⟩
    · have h5 : a.eval (.tmp 14) = .func (.func 47) #[] #[ptr bx] := hB.ea 15 _ rfl (hdep _ rfl ⟨15, .data⟩ (by simp) rfl)
      refine wpOp_of rfl rfl (wp_call (f := 44) (xs := #[.const (.int .i64 1), .tmp 14]) (by kernel_rfl) ?_)
      have e1 : (#[.const (.int .i64 1), .tmp 14] : Array Operand).map a.eval = #[num (least nBegin : Nat), .func (.func 47) #[] #[ptr bx]] := by
        simp only [List.map_toArray, List.map_cons, List.map_nil, h5]
        rfl
      rw [e1]
      refine (atLeast_any (q := q) hzc (In.begin hBx) rfl).mono ?_
      rintro e w' ⟨u, rfl, hSh, hF⟩
      refine ⟨u, rfl, hK _ _ ⟨_, _, _, hB.val hs46 hi46 (by decide) rfl rfl (by decide) hF ?_⟩⟩
      show IsSh _ _ _ _ _
      rw [eval_put_eq _ (by rw [hB.size]; decide)]
      exact hSh
    · obtain ⟨mb, rfl, h3⟩ := hB.ea 0 _ rfl (hdep _ rfl ⟨0, .data⟩ (by simp) rfl)
      have h4 : IsSh w (mb :: Z) q nBegin (a.eval (.tmp 15)) := hB.ea 16 _ rfl (hdep _ rfl ⟨16, .data⟩ (by simp) rfl)
      obtain ⟨w', hr, hInv⟩ := hB.ins hs46 hi46 (s := nBegin) rfl rfl rfl h4
      refine wpOp_of rfl rfl (wp_ins rfl (w' := w') ?_ (hK _ _ hInv))
      rw [h3]
      exact hr
    · exact wpOp_of rfl rfl (wp_load rfl hB.t1 hc (hK _ _ ⟨_, _, _, hB.val hs46 hi46 (by decide) rfl rfl (by decide) (MM.Far.refl _ _) (eval_put_eq _ (by rw [hB.size]; decide))⟩))
    · have h5 : a.eval (.tmp 16) = ptr q := hB.ea 18 _ rfl (hdep _ rfl ⟨18, .data⟩ (by simp) rfl)
      refine wpOp_of rfl rfl (wp_func rfl ?_)
      have e1 : (#[Operand.tmp 16] : Array Operand).map a.eval = #[ptr q] := by simp only [List.map_toArray, List.map_cons, List.map_nil, h5]
      have e2 : (#[] : Array Operand).map a.eval = #[] := by simp
      rw [e1, e2]
      exact hK _ _ ⟨_, _, _, hB.val hs46 hi46 (by decide) rfl rfl (by decide) (MM.Far.refl _ _) (eval_put_eq _ (by rw [hB.size]; decide))⟩
    · have h5 : a.eval (.tmp 17) = .func (.func 49) #[ptr q] #[] := hB.ea 19 _ rfl (hdep _ rfl ⟨19, .data⟩ (by simp) rfl)
      refine wpOp_of rfl rfl (wp_call (f := 44) (xs := #[.const (.int .i64 2), .tmp 17]) (by kernel_rfl) ?_)
      have e1 : (#[.const (.int .i64 2), .tmp 17] : Array Operand).map a.eval = #[num (least nDefine : Nat), .func (.func 49) #[ptr q] #[]] := by
        simp only [List.map_toArray, List.map_cons, List.map_nil, h5]
        rfl
      rw [e1]
      refine (atLeast_any (q := q) hzc (In.define) rfl).mono ?_
      rintro e w' ⟨u, rfl, hSh, hF⟩
      refine ⟨u, rfl, hK _ _ ⟨_, _, _, hB.val hs46 hi46 (by decide) rfl rfl (by decide) hF ?_⟩⟩
      show IsSh _ _ _ _ _
      rw [eval_put_eq _ (by rw [hB.size]; decide)]
      exact hSh
    · obtain ⟨mb, rfl, h3⟩ := hB.ea 0 _ rfl (hdep _ rfl ⟨0, .data⟩ (by simp) rfl)
      have h4 : IsSh w (mb :: Z) q nDefine (a.eval (.tmp 18)) := hB.ea 20 _ rfl (hdep _ rfl ⟨20, .data⟩ (by simp) rfl)
      obtain ⟨w', hr, hInv⟩ := hB.ins hs46 hi46 (s := nDefine) rfl rfl rfl h4
      refine wpOp_of rfl rfl (wp_ins rfl (w' := w') ?_ (hK _ _ hInv))
      rw [h3]
      exact hr
    · exact wpOp_of rfl rfl (wp_load rfl hB.t1 hc (hK _ _ ⟨_, _, _, hB.val hs46 hi46 (by decide) rfl rfl (by decide) (MM.Far.refl _ _) (eval_put_eq _ (by rw [hB.size]; decide))⟩))
    · have h5 : a.eval (.tmp 19) = ptr q := hB.ea 22 _ rfl (hdep _ rfl ⟨22, .data⟩ (by simp) rfl)
      refine wpOp_of rfl rfl (wp_func rfl ?_)
      have e1 : (#[Operand.tmp 19] : Array Operand).map a.eval = #[ptr q] := by simp only [List.map_toArray, List.map_cons, List.map_nil, h5]
      have e2 : (#[] : Array Operand).map a.eval = #[] := by simp
      rw [e1, e2]
      exact hK _ _ ⟨_, _, _, hB.val hs46 hi46 (by decide) rfl rfl (by decide) (MM.Far.refl _ _) (eval_put_eq _ (by rw [hB.size]; decide))⟩
    · have h5 : a.eval (.tmp 20) = .func (.func 50) #[ptr q] #[] := hB.ea 23 _ rfl (hdep _ rfl ⟨23, .data⟩ (by simp) rfl)
      refine wpOp_of rfl rfl (wp_call (f := 44) (xs := #[.const (.int .i64 2), .tmp 20]) (by kernel_rfl) ?_)
      have e1 : (#[.const (.int .i64 2), .tmp 20] : Array Operand).map a.eval = #[num (least nLet : Nat), .func (.func 50) #[ptr q] #[]] := by
        simp only [List.map_toArray, List.map_cons, List.map_nil, h5]
        rfl
      rw [e1]
      refine (atLeast_any (q := q) hzc (In.lett) rfl).mono ?_
      rintro e w' ⟨u, rfl, hSh, hF⟩
      refine ⟨u, rfl, hK _ _ ⟨_, _, _, hB.val hs46 hi46 (by decide) rfl rfl (by decide) hF ?_⟩⟩
      show IsSh _ _ _ _ _
      rw [eval_put_eq _ (by rw [hB.size]; decide)]
      exact hSh
    · obtain ⟨mb, rfl, h3⟩ := hB.ea 0 _ rfl (hdep _ rfl ⟨0, .data⟩ (by simp) rfl)
      have h4 : IsSh w (mb :: Z) q nLet (a.eval (.tmp 21)) := hB.ea 24 _ rfl (hdep _ rfl ⟨24, .data⟩ (by simp) rfl)
      obtain ⟨w', hr, hInv⟩ := hB.ins hs46 hi46 (s := nLet) rfl rfl rfl h4
      refine wpOp_of rfl rfl (wp_ins rfl (w' := w') ?_ (hK _ _ hInv))
      rw [h3]
      exact hr
    · exact wpOp_of rfl rfl (wp_load rfl hB.t1 hc (hK _ _ ⟨_, _, _, hB.val hs46 hi46 (by decide) rfl rfl (by decide) (MM.Far.refl _ _) (eval_put_eq _ (by rw [hB.size]; decide))⟩))
    · have h5 : a.eval (.tmp 22) = ptr q := hB.ea 26 _ rfl (hdep _ rfl ⟨26, .data⟩ (by simp) rfl)
      refine wpOp_of rfl rfl (wp_func rfl ?_)
      have e1 : (#[Operand.tmp 22] : Array Operand).map a.eval = #[ptr q] := by simp only [List.map_toArray, List.map_cons, List.map_nil, h5]
      have e2 : (#[] : Array Operand).map a.eval = #[] := by simp
      rw [e1, e2]
      exact hK _ _ ⟨_, _, _, hB.val hs46 hi46 (by decide) rfl rfl (by decide) (MM.Far.refl _ _) (eval_put_eq _ (by rw [hB.size]; decide))⟩
    · have h5 : a.eval (.tmp 23) = .func (.func 51) #[ptr q] #[] := hB.ea 27 _ rfl (hdep _ rfl ⟨27, .data⟩ (by simp) rfl)
      refine wpOp_of rfl rfl (wp_call (f := 44) (xs := #[.const (.int .i64 2), .tmp 23]) (by kernel_rfl) ?_)
      have e1 : (#[.const (.int .i64 2), .tmp 23] : Array Operand).map a.eval = #[num (least nStar : Nat), .func (.func 51) #[ptr q] #[]] := by
        simp only [List.map_toArray, List.map_cons, List.map_nil, h5]
        rfl
      rw [e1]
      refine (atLeast_any (q := q) hzc (In.star) rfl).mono ?_
      rintro e w' ⟨u, rfl, hSh, hF⟩
      refine ⟨u, rfl, hK _ _ ⟨_, _, _, hB.val hs46 hi46 (by decide) rfl rfl (by decide) hF ?_⟩⟩
      show IsSh _ _ _ _ _
      rw [eval_put_eq _ (by rw [hB.size]; decide)]
      exact hSh
    · obtain ⟨mb, rfl, h3⟩ := hB.ea 0 _ rfl (hdep _ rfl ⟨0, .data⟩ (by simp) rfl)
      have h4 : IsSh w (mb :: Z) q nStar (a.eval (.tmp 24)) := hB.ea 28 _ rfl (hdep _ rfl ⟨28, .data⟩ (by simp) rfl)
      obtain ⟨w', hr, hInv⟩ := hB.ins hs46 hi46 (s := nStar) rfl rfl rfl h4
      refine wpOp_of rfl rfl (wp_ins rfl (w' := w') ?_ (hK _ _ hInv))
      rw [h3]
      exact hr
    · refine wpOp_of rfl rfl (wp_func rfl ?_)
      have e1 : (#[Operand.tmp 1] : Array Operand).map a.eval = #[ptr bx] := by simp only [List.map_toArray, List.map_cons, List.map_nil, hB.t1]
      have e2 : (#[] : Array Operand).map a.eval = #[] := by simp
      rw [e1, e2]
      exact hK _ _ ⟨_, _, _, hB.val hs46 hi46 (by decide) rfl rfl (by decide) (MM.Far.refl _ _) (eval_put_eq _ (by rw [hB.size]; decide))⟩
    · have h5 : a.eval (.tmp 25) = .func (.func 52) #[] #[ptr bx] := hB.ea 30 _ rfl (hdep _ rfl ⟨30, .data⟩ (by simp) rfl)
      refine wpOp_of rfl rfl (wp_call (f := 44) (xs := #[.const (.int .i64 1), .tmp 25]) (by kernel_rfl) ?_)
      have e1 : (#[.const (.int .i64 1), .tmp 25] : Array Operand).map a.eval = #[num (least nCond : Nat), .func (.func 52) #[] #[ptr bx]] := by
        simp only [List.map_toArray, List.map_cons, List.map_nil, h5]
        rfl
      rw [e1]
      refine (atLeast_any (q := q) hzc (In.cond hBx) rfl).mono ?_
      rintro e w' ⟨u, rfl, hSh, hF⟩
      refine ⟨u, rfl, hK _ _ ⟨_, _, _, hB.val hs46 hi46 (by decide) rfl rfl (by decide) hF ?_⟩⟩
      show IsSh _ _ _ _ _
      rw [eval_put_eq _ (by rw [hB.size]; decide)]
      exact hSh
    · obtain ⟨mb, rfl, h3⟩ := hB.ea 0 _ rfl (hdep _ rfl ⟨0, .data⟩ (by simp) rfl)
      have h4 : IsSh w (mb :: Z) q nCond (a.eval (.tmp 26)) := hB.ea 31 _ rfl (hdep _ rfl ⟨31, .data⟩ (by simp) rfl)
      obtain ⟨w', hr, hInv⟩ := hB.ins hs46 hi46 (s := nCond) rfl rfl rfl h4
      refine wpOp_of rfl rfl (wp_ins rfl (w' := w') ?_ (hK _ _ hInv))
      rw [h3]
      exact hr
    · obtain ⟨mb, rfl, h3⟩ := hB.ea 0 _ rfl (hdep _ rfl ⟨0, .data⟩ (by simp) rfl)
      have h4 : IsSh w (mb :: Z) q nElse (a.eval (.func 54)) := .els
      obtain ⟨w', hr, hInv⟩ := hB.ins hs46 hi46 (s := nElse) rfl rfl rfl h4
      refine wpOp_of rfl rfl (wp_ins rfl (w' := w') ?_ (hK _ _ hInv))
      rw [h3]
      exact hr
    · refine wpOp_of rfl rfl (wp_func rfl ?_)
      have e1 : (#[Operand.tmp 1] : Array Operand).map a.eval = #[ptr bx] := by simp only [List.map_toArray, List.map_cons, List.map_nil, hB.t1]
      have e2 : (#[] : Array Operand).map a.eval = #[] := by simp
      rw [e1, e2]
      exact hK _ _ ⟨_, _, _, hB.val hs46 hi46 (by decide) rfl rfl (by decide) (MM.Far.refl _ _) (eval_put_eq _ (by rw [hB.size]; decide))⟩
    · obtain ⟨mb, rfl, h3⟩ := hB.ea 0 _ rfl (hdep _ rfl ⟨0, .data⟩ (by simp) rfl)
      have h5 : a.eval (.tmp 27) = .func (.func 56) #[] #[ptr bx] := hB.ea 34 _ rfl (hdep _ rfl ⟨34, .data⟩ (by simp) rfl)
      have h4 : IsSh w (mb :: Z) q nAnd (a.eval (.tmp 27)) := by rw [h5]; exact .and hBx
      obtain ⟨w', hr, hInv⟩ := hB.ins hs46 hi46 (s := nAnd) rfl rfl rfl h4
      refine wpOp_of rfl rfl (wp_ins rfl (w' := w') ?_ (hK _ _ hInv))
      rw [h3]
      exact hr
    · refine wpOp_of rfl rfl (wp_func rfl ?_)
      have e1 : (#[Operand.tmp 1] : Array Operand).map a.eval = #[ptr bx] := by simp only [List.map_toArray, List.map_cons, List.map_nil, hB.t1]
      have e2 : (#[] : Array Operand).map a.eval = #[] := by simp
      rw [e1, e2]
      exact hK _ _ ⟨_, _, _, hB.val hs46 hi46 (by decide) rfl rfl (by decide) (MM.Far.refl _ _) (eval_put_eq _ (by rw [hB.size]; decide))⟩
    · obtain ⟨mb, rfl, h3⟩ := hB.ea 0 _ rfl (hdep _ rfl ⟨0, .data⟩ (by simp) rfl)
      have h5 : a.eval (.tmp 28) = .func (.func 58) #[] #[ptr bx] := hB.ea 36 _ rfl (hdep _ rfl ⟨36, .data⟩ (by simp) rfl)
      have h4 : IsSh w (mb :: Z) q nOr (a.eval (.tmp 28)) := by rw [h5]; exact .or hBx
      obtain ⟨w', hr, hInv⟩ := hB.ins hs46 hi46 (s := nOr) rfl rfl rfl h4
      refine wpOp_of rfl rfl (wp_ins rfl (w' := w') ?_ (hK _ _ hInv))
      rw [h3]
      exact hr
    · refine wpOp_of rfl rfl (wp_func rfl ?_)
      have e1 : (#[Operand.tmp 1] : Array Operand).map a.eval = #[ptr bx] := by simp only [List.map_toArray, List.map_cons, List.map_nil, hB.t1]
      have e2 : (#[] : Array Operand).map a.eval = #[] := by simp
      rw [e1, e2]
      exact hK _ _ ⟨_, _, _, hB.val hs46 hi46 (by decide) rfl rfl (by decide) (MM.Far.refl _ _) (eval_put_eq _ (by rw [hB.size]; decide))⟩
    · have h5 : a.eval (.tmp 29) = .func (.func 60) #[] #[ptr bx] := hB.ea 38 _ rfl (hdep _ rfl ⟨38, .data⟩ (by simp) rfl)
      refine wpOp_of rfl rfl (wp_call (f := 44) (xs := #[.const (.int .i64 2), .tmp 29]) (by kernel_rfl) ?_)
      have e1 : (#[.const (.int .i64 2), .tmp 29] : Array Operand).map a.eval = #[num (least nWhen : Nat), .func (.func 60) #[] #[ptr bx]] := by
        simp only [List.map_toArray, List.map_cons, List.map_nil, h5]
        rfl
      rw [e1]
      refine (atLeast_any (q := q) hzc (In.when hBx) rfl).mono ?_
      rintro e w' ⟨u, rfl, hSh, hF⟩
      refine ⟨u, rfl, hK _ _ ⟨_, _, _, hB.val hs46 hi46 (by decide) rfl rfl (by decide) hF ?_⟩⟩
      show IsSh _ _ _ _ _
      rw [eval_put_eq _ (by rw [hB.size]; decide)]
      exact hSh
    · obtain ⟨mb, rfl, h3⟩ := hB.ea 0 _ rfl (hdep _ rfl ⟨0, .data⟩ (by simp) rfl)
      have h4 : IsSh w (mb :: Z) q nWhen (a.eval (.tmp 30)) := hB.ea 39 _ rfl (hdep _ rfl ⟨39, .data⟩ (by simp) rfl)
      obtain ⟨w', hr, hInv⟩ := hB.ins hs46 hi46 (s := nWhen) rfl rfl rfl h4
      refine wpOp_of rfl rfl (wp_ins rfl (w' := w') ?_ (hK _ _ hInv))
      rw [h3]
      exact hr
    · refine wpOp_of rfl rfl (wp_func rfl ?_)
      have e1 : (#[Operand.tmp 1] : Array Operand).map a.eval = #[ptr bx] := by simp only [List.map_toArray, List.map_cons, List.map_nil, hB.t1]
      have e2 : (#[] : Array Operand).map a.eval = #[] := by simp
      rw [e1, e2]
      exact hK _ _ ⟨_, _, _, hB.val hs46 hi46 (by decide) rfl rfl (by decide) (MM.Far.refl _ _) (eval_put_eq _ (by rw [hB.size]; decide))⟩
    · have h5 : a.eval (.tmp 31) = .func (.func 64) #[] #[ptr bx] := hB.ea 41 _ rfl (hdep _ rfl ⟨41, .data⟩ (by simp) rfl)
      refine wpOp_of rfl rfl (wp_call (f := 44) (xs := #[.const (.int .i64 2), .tmp 31]) (by kernel_rfl) ?_)
      have e1 : (#[.const (.int .i64 2), .tmp 31] : Array Operand).map a.eval = #[num (least nUnless : Nat), .func (.func 64) #[] #[ptr bx]] := by
        simp only [List.map_toArray, List.map_cons, List.map_nil, h5]
        rfl
      rw [e1]
      refine (atLeast_any (q := q) hzc (In.unl hBx) rfl).mono ?_
      rintro e w' ⟨u, rfl, hSh, hF⟩
      refine ⟨u, rfl, hK _ _ ⟨_, _, _, hB.val hs46 hi46 (by decide) rfl rfl (by decide) hF ?_⟩⟩
      show IsSh _ _ _ _ _
      rw [eval_put_eq _ (by rw [hB.size]; decide)]
      exact hSh
    · obtain ⟨mb, rfl, h3⟩ := hB.ea 0 _ rfl (hdep _ rfl ⟨0, .data⟩ (by simp) rfl)
      have h4 : IsSh w (mb :: Z) q nUnless (a.eval (.tmp 32)) := hB.ea 42 _ rfl (hdep _ rfl ⟨42, .data⟩ (by simp) rfl)
      obtain ⟨w', hr, hInv⟩ := hB.ins hs46 hi46 (s := nUnless) rfl rfl rfl h4
      refine wpOp_of rfl rfl (wp_ins rfl (w' := w') ?_ (hK _ _ hInv))
      rw [h3]
      exact hr
    · obtain ⟨mb, rfl, h3⟩ := hB.ea 0 _ rfl (hdep _ rfl ⟨0, .data⟩ (by simp) rfl)
      refine wpOp_of rfl rfl (wp_move (.inl rfl) ?_)
      rw [h3]
      exact hK _ _ ⟨_, _, _, hB.val hs46 hi46 (by decide) rfl rfl (by decide) (MM.Far.refl _ _) ⟨mb, rfl, eval_put_eq _ (by rw [hB.size]; decide)⟩⟩
    · obtain ⟨mb, rfl, h3⟩ := hB.ea 44 _ rfl (hdep _ rfl ⟨44, .data⟩ (by simp) rfl)
      refine wpOp_of rfl rfl (wp_move (.inr rfl) ?_)
      rw [h3]
      exact hK _ _ ⟨_, _, _, hB.val hs46 hi46 (by decide) rfl rfl (by decide) (MM.Far.refl _ _) ⟨mb, rfl, eval_put_eq _ (by rw [hB.size]; decide)⟩⟩
end EW
end Go.Proofs.YtaghlpolljaedaaGreat
