/-
  The last step of a law's row where the call has made new memory of any kind: all that was there before is as it was ('Below'), so the arguments read as they did. Condition: the results and the arguments read as the specification says.
-/
import Derived.Below
import Derived.ChangeSame
import Derived.Carry
namespace Go.Proofs.Yteochpfdongcaaa
open Go.RowKit Go.WideShapes Go.ChangeShapes
namespace LP
theorem law_post {H : Type} {enc : TypeId × Value → H} {P : Program} {f : Func} {s : ChangeSpec} {apart fresh handsOn again : Bool} {W W' : World} {args : Array Value} {v : Value} {ds gs : List (DataW H)} {before pa pv : List MemPlace}
    (whole : DataW.Whole enc P f.params.toList s.vars apart W args.toList ds gs before)
    (res : ∀ (b : Nat) (sp : Nat → Bool) (hd : Bool), DataW.TrodAll enc P W' b sp hd f.resultTypes.toList (v.resultList f.resultTypes.size) (s.fn H (ds ++ gs)).results [])
    (arg : ∀ sp : Nat → Bool, (∀ p ∈ before, sp p.block = true) → DataW.TrodAll enc P W' 0 sp true f.params.toList args.toList (s.fn H (ds ++ gs)).args pa)
    (var : ∀ sp : Nat → Bool, (∀ p ∈ before, sp p.block = true) → DataW.TrodVars enc P W' sp s.vars (s.fn H (ds ++ gs)).vars pv)
    (sum : before = pa ++ pv) (below : Below W.heap.size W W')
    (ok : ∀ (j : Nat) (t : TypeId) (r : Value), f.resultTypes[j]? = some t → (v.resultList f.resultTypes.size)[j]? = some r → Value.okWide P W' .any 0 t r) :
    s.post enc P f apart fresh handsOn again W args v W' := by
  have low : ∀ p ∈ before, p.block < W.heap.size := fun p hp => whole.lt p hp
  have spare : ∀ p ∈ before, (fun b => decide (b < W.heap.size)) p.block = true := fun p hp => by simpa using low p hp
  obtain ⟨_, _, _, _, _, frz, dist⟩ := id whole
  refine ⟨ds, gs, before, [], pa, pv, whole, res _ _ _, arg _ spare, var _ spare, World.keptBut_mono ?_ (below.frame (· ∈ before)), fun _ => ⟨ok, (s.fn H (ds ++ gs)).results ++ (s.fn H (ds ++ gs)).args, _, pa ++ pv, ⟨pa, pv, ?_, var _ (fun _ _ => rfl), rfl, ?_, ?_⟩, ?_⟩⟩
  · intro p hp
    refine ⟨hp, ?_⟩
    rw [sum, List.mem_append] at hp
    exact .inr hp
  · simpa using trodAll_append (arg _ (fun _ _ => rfl)) (res _ _ _)
  · intro b off hp
    rw [← sum] at hp
    rw [below.frozen (p := ⟨b, off, none⟩) (low _ hp)]
    exact frz b off hp
  · intro ha
    have := dist ha
    rwa [sum] at this
  · intro p hp _
    rw [sum]
    exact hp
end LP
end Go.Proofs.Yteochpfdongcaaa
