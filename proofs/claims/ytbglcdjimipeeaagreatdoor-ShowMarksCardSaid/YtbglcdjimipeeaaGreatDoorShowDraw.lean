/-
  A region that draws its order, in which a call that makes memory of its own alone may be taken first: what is shown of the region is shown of every world that has such memory more. No condition.
-/
import Derived.OrdersHeld
import Derived.Deep.RegionHeld
import Derived.Test.YtbglcdjimipeeaaGreatDoorMemAll
namespace Go.Proofs.YtbglcdjimipeeaaGreatDoor
open Go Go.RowKit
namespace SW
section
variable {P : Program} {ops : Array Oper} {Q : Exit → Act → World → Prop} {md : Region.Mode}
/-- In state a the operation leaves v, in every world, and makes new memory at most. -/
def YieldsR (P : Program) (ops : Array Oper) (o : Oper) (v : Value) (a : Act) : Prop :=
  (Region.wanted o (yielded ops a.tmps) = true ∧ ∀ w, (execOp a.eval o).run P w = .ok (.value v) w ∨ ∃ f args, (execOp a.eval o).run P w = .ok (.enter f args) w ∧ Calls P f args w fun e w' => e = .returned v ∧ MM.Far [] w w') ∨
  (Region.wanted o (yielded ops a.tmps) = false ∧ v = undef)
theorem YieldsR.wpOp {i : Nat} {o : Oper} {v : Value} {a : Act} (hi : ops[i]? = some o) (hy : YieldsR P ops o v a) {K : Act → World → Prop} {w : World} (h : ∀ w', MM.Far [] w w' → K (a.put o.dst v) w') : wpOp P ops Q i K a w := by
  unfold Go.wpOp
  simp only [hi]
  rcases hy with ⟨hw, hv⟩ | ⟨hw, rfl⟩
  · simp only [hw, if_true]
    refine .inl ?_
    unfold Oper.wp
    rcases hv w with hv | ⟨f, args, hv, hc⟩
    · rw [hv]
      exact h w (MM.Far.refl [] w)
    · rw [hv]
      simp only [Oper.upon]
      refine Calls.mono hc fun e w' ⟨he, hf⟩ => ?_
      subst he
      exact h w' hf
  · simp only [hw, Bool.false_eq_true, if_false]
    exact h w (MM.Far.refl [] w)
theorem YieldsR.of_same {o : Oper} {v : Value} {a a' : Act} (hy : YieldsR P ops o v a) (he : execOp a'.eval o = execOp a.eval o) (hw : Region.wanted o (yielded ops a'.tmps) = Region.wanted o (yielded ops a.tmps)) : YieldsR P ops o v a' := by
  unfold YieldsR at *
  rw [he, hw]
  exact hy
/-- What is left behind an operation is the state with its value put. -/
theorem wpOp_shape {j : Nat} {oj : Oper} (hj : ops[j]? = some oj) {K : Act → World → Prop} {Z : Act → Prop} {a : Act} {w : World} (h1 : ∀ u, Z (a.put oj.dst u)) (h2 : ∀ d, Z (({ a with defers := d :: a.defers } : Act).put oj.dst undef))
    (h : wpOp P ops Q j K a w) : wpOp P ops Q j (fun a' w' => Z a' ∧ K a' w') a w := by
  unfold Go.wpOp at h ⊢
  simp only [hj] at h ⊢
  by_cases hw : Region.wanted oj (yielded ops a.tmps) = true
  · rw [if_pos hw] at h ⊢
    refine h.imp (fun h => ?_) id
    unfold Oper.wp at h ⊢
    cases hr : (execOp a.eval oj).run P w with
    | halt x w' =>
      rw [hr] at h
      cases x <;> exact h
    | ok n w' =>
      rw [hr] at h
      cases n <;> simp only [Oper.upon] at h ⊢ <;> first | exact ⟨h1 _, h⟩ | exact ⟨h2 _, h⟩ | exact Rows.mono h (fun u w'' he => ⟨h1 u, he⟩) | (refine Calls.mono h fun e w'' he => ?_; cases e <;> first | exact he | exact ⟨h1 _, he⟩) | exact h
  · rw [if_neg hw] at h
    rw [if_neg hw]
    exact ⟨h1 _, h⟩
theorem wpOp_putR {j : Nat} {oi oj : Oper} {v : Value} (hj : ops[j]? = some oj) (hap : oi.apart ops oj = true)
    (hsi : ∀ cs b, oi.op ≠ .select cs b) (hsj : ∀ cs b, oj.op ≠ .select cs b)
    (hQ : ∀ c a w, Q (.panic c) (a.put oi.dst v) w → Q (.panic c) a w) {K : Act → World → Prop} {a : Act} {w : World}
    (hy : YieldsR P ops oi v a) (h : wpOp P ops Q j K (a.put oi.dst v) w) :
    wpOp P ops Q j (fun a' w' => YieldsR P ops oi v a' ∧ K (a'.put oi.dst v) w') a w := by
  have hf : YieldsIf P ops (fun _ => False) oi v a := hy.imp (fun ⟨h1, _⟩ => ⟨h1, fun _ h => h.elim⟩) id
  have h3 := (Oper.apart_spec hap).2.2
  have keep : ∀ (b : Act), YieldsR P ops oi v b → ∀ u, YieldsR P ops oi v (b.put oj.dst u) := fun b hb u => hb.of_same (execOp_put oi hsi b oj.dst u h3) (wanted_put oi b oj.dst u h3)
  exact wpOp_mono (fun a' w' ⟨hz, _, hk⟩ => ⟨hz, hk⟩) (wpOp_shape (Z := YieldsR P ops oi v) hj (keep a hy) (fun d => keep { a with defers := d :: a.defers } (hy.of_same rfl rfl) undef) (wpOp_putIf hj hap hsi hsj hQ hf h))
/-- Whatever order is picked from here on, and whatever new memory there is at each step. -/
def wpAnyR (P : Program) (md : Region.Mode) (ops : Array Oper) (Q : Exit → Act → World → Prop) : Nat → Array Bool → Act → World → Prop
  | 0, listed, a, w => ∀ w', MM.Far [] w w' → Region.ready md ops listed = [] ∧ Q .normal a w'
  | fuel + 1, listed, a, w => ∀ w', MM.Far [] w w' → (Region.ready md ops listed = [] → Q .normal a w') ∧
    ∀ i ∈ Region.ready md ops listed, wpOp P ops Q i (fun a' w2 => wpAnyR P md ops Q fuel (listed.setIfInBounds i true) a' w2) a w'
theorem wpAny_of_R : ∀ (fuel : Nat) (listed : Array Bool) (a : Act) (w : World), wpAnyR P md ops Q fuel listed a w → wpAny P md ops Q fuel listed a w
  | 0, _, _, w, h => h w (MM.Far.refl [] w)
  | fuel + 1, _, _, w, h => ⟨(h w (MM.Far.refl [] w)).1, fun i hi => wpOp_mono (fun a' w' h' => wpAny_of_R fuel _ a' w' h') ((h w (MM.Far.refl [] w)).2 i hi)⟩
theorem wpAnyR_mono {fuel : Nat} {listed : Array Bool} {a : Act} {w w' : World} (f : MM.Far [] w w') (h : wpAnyR P md ops Q fuel listed a w) : wpAnyR P md ops Q fuel listed a w' := by
  cases fuel with
  | zero => exact fun w2 g => h w2 (f.trans g (by simp))
  | succ fuel => exact fun w2 g => h w2 (f.trans g (by simp))
theorem wpAnyR_first {i : Nat} {oi : Oper} {v : Value} (hi : ops[i]? = some oi) (hsel : ∀ (j : Nat) (o : Oper) cs b, ops[j]? = some o → o.op ≠ .select cs b)
    (hQ : ∀ c a w, Q (.panic c) (a.put oi.dst v) w → Q (.panic c) a w) :
    ∀ (fuel : Nat) (listed : Array Bool) (a : Act) (w : World),
      (∀ j oj, ops[j]? = some oj → j ≠ i → listed.getD j true = false → (∀ e ∈ oj.after, Region.binds md e = true → e.on ≠ i) → oi.apart ops oj = true) →
      i ∈ Region.ready md ops listed → YieldsR P ops oi v a →
      wpAnyR P md ops Q fuel (listed.setIfInBounds i true) (a.put oi.dst v) w → wpAnyR P md ops Q (fuel + 1) listed a w := by
  intro fuel
  induction fuel with
  | zero =>
    intro listed a w _ hr hy H w1 f1
    refine ⟨fun h => (by rw [h] at hr; cases hr), fun j hj => ?_⟩
    by_cases hji : j = i
    · subst hji; exact hy.wpOp hi (fun w2 f2 => wpAnyR_mono (f1.trans f2 (by simp)) H)
    · have := ready_mono hj hji
      rw [(H w1 f1).1] at this
      cases this
  | succ fuel ih =>
    intro listed a w hfree hr hy H w1 f1
    refine ⟨fun h => (by rw [h] at hr; cases hr), fun j hj => ?_⟩
    by_cases hji : j = i
    · subst hji; exact hy.wpOp hi (fun w2 f2 => wpAnyR_mono (f1.trans f2 (by simp)) H)
    · have h1 := (H w1 f1).2 j (ready_mono hj hji)
      obtain ⟨hjun, oj, hoj, hall⟩ := mem_ready.1 hj
      have hnot : ∀ e ∈ oj.after, Region.binds md e = true → e.on ≠ i := fun e he hb heq => by
        have h1 := hall e he hb
        have h0 := (mem_ready.1 hr).1
        rw [heq] at h1
        rcases Nat.lt_or_ge i listed.size with h' | h'
        · simp [h'] at h0 h1; rw [h0] at h1; cases h1
        · simp [Array.getElem?_eq_none h'] at h1
      have h2 := wpOp_putR hoj (hfree j oj hoj hji hjun hnot) (fun cs b => hsel i oi cs b hi) (fun cs b => hsel j oj cs b hoj) hQ hy h1
      have hfree' : ∀ k ok, ops[k]? = some ok → k ≠ i → (listed.setIfInBounds j true).getD k true = false →
          (∀ e ∈ ok.after, Region.binds md e = true → e.on ≠ i) → oi.apart ops ok = true := fun k ok hk hki hun hno => by
        refine hfree k ok hk hki ?_ hno
        by_cases hjk : j = k
        · subst hjk; exact hjun
        · rw [getD_set_ne true hjk] at hun; exact hun
      refine wpOp_mono (fun a' w' h3 => ih (listed.setIfInBounds j true) a' w' hfree' (ready_mono hr (Ne.symm hji)) h3.1 ?_) h2
      rw [Array.setIfInBounds_comm _ _ hji]
      exact h3.2
/-- Take number i first: it yields v in every world. -/
theorem wpAnyR_take {i : Nat} {oi : Oper} {v : Value} {fuel : Nat} {listed : Array Bool} {a : Act} {w : World} (hi : ops[i]? = some oi)
    (hs : Region.noSelect ops = true) (hf : Region.free md ops listed i = true) (hr : (Region.ready md ops listed).contains i = true)
    (hQ : ∀ c a w, Q (.panic c) (a.put oi.dst v) w → Q (.panic c) a w) (hw : Region.wanted oi (yielded ops a.tmps) = true) (hy : ∀ w, (execOp a.eval oi).run P w = .ok (.value v) w)
    (h : wpAnyR P md ops Q fuel (listed.setIfInBounds i true) (a.put oi.dst v) w) : wpAnyR P md ops Q (fuel + 1) listed a w :=
  wpAnyR_first hi (Region.noSelect_spec hs) hQ fuel listed a w (Region.free_spec hi hf) (by simpa using hr) (.inl ⟨hw, fun w => .inl (hy w)⟩) h
/-- Take the call number i first: it returns v, and has made new memory at most. -/
theorem wpAnyR_call {i : Nat} {oi : Oper} {v : Value} {fuel : Nat} {listed : Array Bool} {a : Act} {w : World} (f : FuncId) (args : Array Value) (hi : ops[i]? = some oi)
    (hs : Region.noSelect ops = true) (hf : Region.free md ops listed i = true) (hr : (Region.ready md ops listed).contains i = true)
    (hQ : ∀ c a w, Q (.panic c) (a.put oi.dst v) w → Q (.panic c) a w) (hw : Region.wanted oi (yielded ops a.tmps) = true) (hy : ∀ w, (execOp a.eval oi).run P w = .ok (.enter f args) w) (hc : ∀ w, Calls P f args w fun e w' => e = .returned v ∧ MM.Far [] w w')
    (h : wpAnyR P md ops Q fuel (listed.setIfInBounds i true) (a.put oi.dst v) w) : wpAnyR P md ops Q (fuel + 1) listed a w :=
  wpAnyR_first hi (Region.noSelect_spec hs) hQ fuel listed a w (Region.free_spec hi hf) (by simpa using hr) (.inl ⟨hw, fun w => .inr ⟨f, args, hy w, hc w⟩⟩) h
/-- All have come up. -/
theorem wpAnyR_done {listed : Array Bool} {a : Act} {w : World} (hr : Region.ready md ops listed = []) (h : ∀ w', MM.Far [] w w' → Q .normal a w') :
    ∀ fuel, wpAnyR P md ops Q fuel listed a w
  | 0 => fun w' f => ⟨hr, h w' f⟩
  | _ + 1 => fun w' f => ⟨fun _ => h w' f, by rw [hr]; simp⟩
def AllReadyR (P : Program) (md : Region.Mode) (ops : Array Oper) (Q : Exit → Act → World → Prop) (fuel : Nat) (listed : Array Bool) (a : Act) (w : World) (rs : List Nat) : Prop :=
  ∀ i ∈ rs, wpOp P ops Q i (fun a' w' => wpAnyR P md ops Q fuel (listed.setIfInBounds i true) a' w') a w
theorem AllReadyR.nil {fuel : Nat} {listed : Array Bool} {a : Act} {w : World} : AllReadyR P md ops Q fuel listed a w [] := fun _ h => by cases h
theorem AllReadyR.cons {fuel : Nat} {listed : Array Bool} {a : Act} {w : World} {i : Nat} {o : Oper} {rs : List Nat} (ho : ops[i]? = some o)
    (h : ∀ K' : Act → World → Prop, Shut (∀ a w, wpAnyR P md ops Q fuel (listed.setIfInBounds i true) a w → K' a w) → if Region.wanted o (yielded ops a.tmps) = true then Oper.wp P o a w K' Q else K' (a.put o.dst undef) w)
    (hs : AllReadyR P md ops Q fuel listed a w rs) : AllReadyR P md ops Q fuel listed a w (i :: rs) := fun j hj => by
  rcases List.mem_cons.1 hj with rfl | hj
  · exact wpOp_step ho (fun K' hK => h K' hK)
  · exact hs j hj
theorem wpAnyR_ready {rs : List Nat} {fuel : Nat} {listed : Array Bool} {a : Act} {w : World} (hr : Region.ready md ops listed = rs) (hne : rs ≠ [])
    (h : ∀ w', MM.Far [] w w' → AllReadyR P md ops Q fuel listed a w' rs) : wpAnyR P md ops Q (fuel + 1) listed a w :=
  fun w' f => ⟨fun h0 => absurd (hr ▸ h0) hne, fun i hi => h w' f i (hr ▸ hi)⟩
theorem wp_region_R {id : Nat} {a : Act} {w : World} (hm : P.follows .mixedOrders = true)
    (h : wpAnyR P .any ops Q ops.size (Array.replicate ops.size false) a w.drew) : (Code.region id ops true).wp P Q a w :=
  wp_region_any hm (wpAny_of_R _ _ _ _ h)
end
end SW
end Go.Proofs.YtbglcdjimipeeaaGreatDoor
