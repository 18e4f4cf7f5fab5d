/-
  slices.Insert of one timer into a row that the call has made. Conditions: 64 timers or fewer; the place is the row's or just behind it; what is put lies in a block of its own.
-/
import Derived.Test.YtcodmpibhlojaaaTimDel
import Derived.Test.YtcodmpibhlojaaaMemAll
namespace Go.Proofs.Ytcodmpibhlojaaa
open Go.RowKit Go.Lib
namespace TL
open TM TR MM
theorem wpList_copy {P : Program} {ops : Array Oper} {rest : List Oper} {o : Oper} {a : Act} {w : World} {Q : Exit → Act → World → Prop} (hgd : o.guard = none) (d s : Operand) (t : TypeId)
    (ho : o.op = .call { callee := .builtin .copy, args := #[d, s], argTypes := #[t, t] }) (v u : Value) (hd : a.eval d = v) (hs : a.eval s = u) {v' : Value} {w' : World}
    (hr : ∀ ty, (Builtin.copy_ #[t, t] ty #[v, u]).run P w = .ok v' w') (h : wpList P ops Q rest (a.put o.dst v') w') : wpList P ops Q (o :: rest) a w := by
  refine wpList_plain hgd fun K hK => ?_
  unfold Oper.wp
  simp [execOp, ho, resolve, invoke, builtin, hd, hs, hr, Result.andThen]
  exact hK _ _ h
theorem step_copy {P : Program} {ops : Array Oper} {o : Oper} {a : Act} {w : World} {K : Act → World → Prop} {Q : Exit → Act → World → Prop} {E : Prop} (hgd : o.guard = none) (d s : Operand) (t : TypeId)
    (ho : o.op = .call { callee := .builtin .copy, args := #[d, s], argTypes := #[t, t] }) (v u : Value) (hd : a.eval d = v) (hs : a.eval s = u) {v' : Value} {w' : World}
    (hr : ∀ ty, (Builtin.copy_ #[t, t] ty #[v, u]).run P w = .ok v' w') (h : K (a.put o.dst v') w') :
    if Region.wanted o (yielded ops a.tmps) = true then Oper.wp P o a w K Q else E := by
  have hw : Region.wanted o (yielded ops a.tmps) = true := by simp [Region.wanted, hgd]
  rw [if_pos hw]
  unfold Oper.wp
  simp [execOp, ho, resolve, invoke, builtin, hd, hs, hr, Result.andThen]
  exact h
theorem wpList_append_eq {P : Program} {ops : Array Oper} {rest : List Oper} {o : Oper} {a : Act} {w : World} {Q : Exit → Act → World → Prop} (hgd : o.guard = none) (d s : Operand) (t t' : TypeId)
    (ho : o.op = .call { callee := .builtin .append, args := #[d, s], argTypes := #[t, t'] }) (v u : Value) (hd : a.eval d = v) (hs : a.eval s = u) {v' : Value} {w' : World}
    (hr : ∀ ty, (Builtin.append_ #[t, t'] ty #[v, u]).run P w = .ok v' w') (h : wpList P ops Q rest (a.put o.dst v') w') : wpList P ops Q (o :: rest) a w := by
  refine wpList_plain hgd fun K hK => ?_
  unfold Oper.wp
  simp [execOp, ho, resolve, invoke, builtin, hd, hs, hr, Result.andThen]
  exact hK _ _ h
/-- What Insert gives. -/
def InsQ (w : World) (v : Value) (l : List Ti) (i : Nat) (x : Ti) (e : Ending) (w' : World) : Prop :=
  ∃ v', e = .returned v' ∧ w'.ownsRow 0 52 3 v' (l.length + 1) (en (l.take i ++ x :: l.drop i)) ∧ Far v.ownBlock.toList w w' ∧ ∀ b, v'.ownBlock = some b → v.ownBlock = some b ∨ w.heap.size ≤ b
set_option maxHeartbeats 2000000 in
theorem ins_end (w : World) (v : Value) (l : List Ti) (x : Ti) (vb : Nat) (hown : w.ownsRow 0 52 3 v l.length (en l)) (hlen : l.length ≤ 64) (hx : Row w vb 52 (cs x)) :
    Calls Try.prog 19 #[v, .int .i64 l.length, .slice (some ⟨vb, 0, none⟩) 1 1] w (InsQ w v l l.length x) := by
  obtain ⟨A, c, rfl, hA, hc1, hc2, _, hA2⟩ := MO.form hown
  have H := Lib.hid hown
  have HX := Lib.hid hx
  have hF : ∀ v' w', w'.ownsRow 0 52 3 v' (l.length + 1) (en l ++ cs x) → w.grownBy w' (Value.slice A l.length c).ownBlock → (v'.ownBlock = (Value.slice A l.length c).ownBlock ∨ v'.ownBlock = some w.heap.size) → InsQ w (.slice A l.length c) l l.length x (.returned v') w' := by
    intro v' w' h1 h2 h3
    refine ⟨v', rfl, ?_, Far.of_grown (S := (Value.slice A l.length c).ownBlock.toList) h2 (fun b hb _ => by simp [hb]), fun b hb => ?_⟩
    · rw [List.take_length, List.drop_length, en_app, en_cons, en_nil, List.append_nil]; exact h1
    · rcases h3 with h3 | h3
      · exact .inl (by rw [← h3]; exact hb)
      · refine .inr ?_
        rw [h3] at hb
        cases hb
        exact Nat.le_refl _
  obtain ⟨n, hn⟩ : ∃ n, n = l.length := ⟨_, rfl⟩
  have hln : n ≤ 64 := by omega
  have hnc : n ≤ c := by omega
  have hnil : A = none → n = 0 ∧ c = 0 := fun h => by
    rcases hA2 with ⟨_, h1, h2⟩ | ⟨g, h1, _⟩
    · exact ⟨by omega, h2⟩
    · rw [h] at h1; cases h1
  rw [← hn] at hF H ⊢
  have HF := Lib.hid hF
  clear hown hx hF hc1 hlen hn hA2 hA
  cases A with
  | none =>
    obtain ⟨rfl, rfl⟩ := hnil rfl
    go_enter Try.func19, Try.ntmps19
    go_wp2_with (at_builtin; refine MO.wpList_append _ rfl _ _ 47 rfl 0 52 _ 3 24 tims_slice tim_info rfl (by omega) (.slice none 0 0) 0 (en l) rfl H.out (some ⟨vb, 0, none⟩) 1 1 (cs x) rfl rfl (fun h => by cases h) [] (Src.row HX.out (by simp) _ (fun j u hu => hu)) (fun u hu => en_one [x] u (by simpa [en] using hu)) (by simp only [maxLen]; omega) (by omega) (Nat.zero_le _) ?_; intro v2 w2 hv2 hg2 hat2; have HV := Lib.hid (HF.out v2 w2 hv2 hg2 hat2); clear hv2 hg2 hat2)
    go_ret
    exact HV.out
  | some ad =>
    obtain ⟨ab, ao, asp⟩ := ad
    go_enter Try.func19, Try.ntmps19
    go_wp2_with (at_builtin; refine MO.wpList_append _ rfl _ _ 47 rfl 0 52 _ 3 24 tims_slice tim_info rfl (by omega) (.slice (some ⟨ab, ao, asp⟩) n c) n (en l) rfl H.out (some ⟨vb, 0, none⟩) 1 1 (cs x) rfl rfl (fun h => by cases h) [] (Src.row HX.out (by simp) _ (fun j u hu => hu)) (fun u hu => en_one [x] u (by simpa [en] using hu)) (by simp only [maxLen]; omega) (by omega) (Nat.zero_le _) ?_; intro v2 w2 hv2 hg2 hat2; have HV := Lib.hid (HF.out v2 w2 hv2 hg2 hat2); clear hv2 hg2 hat2)
    all_goals
      go_ret
      exact HV.out
end TL
end Go.Proofs.Ytcodmpibhlojaaa
