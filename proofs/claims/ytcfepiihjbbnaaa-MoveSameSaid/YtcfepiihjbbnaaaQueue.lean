/-
  A row that the call has made itself and cuts at its front: read at its first element, cut by one, appended to by one. No condition but sizes.
-/
import Derived.Test.YtcfepiihjbbnaaaOwn
import Derived.ArgAppend
namespace Go.Proofs.Ytcfepiihjbbnaaa
open Go.RowKit
namespace MQ
open MM
/-- v is a slice of the cells xs, of element type e, anywhere in a block of the call's own since base. -/
def Que (w : World) (base : Nat) (e : TypeId) (v : Value) (xs : List Value) : Prop :=
  (v = .slice none 0 0 ∧ xs = []) ∨ ∃ g o cap cur, v = .slice (some ⟨g, o, none⟩) xs.length cap ∧ base ≤ g ∧ w.heap[g]? = some (.cells cur e (0, 0)) ∧ xs.length ≤ cap ∧ cap ≤ maxLen ∧ o + cap ≤ cur.size ∧ (cur.toList.drop o).take xs.length = xs
section
variable {w w' : World} {base : Nat} {e : TypeId} {v : Value} {xs : List Value}
theorem Que.of_own {n : Nat} (h : w.ownsRow base e 1 v n xs) : Que w base e v xs := by
  obtain ⟨h1, h2⟩ := h
  obtain rfl : n = xs.length := by omega
  rcases h2 with ⟨h2, h3⟩ | ⟨g, cap, cur, hv, hb, hg, hn, hm, hs, ht⟩
  · exact .inl ⟨h2, List.eq_nil_of_length_eq_zero h3⟩
  · exact .inr ⟨g, 0, cap, cur, hv, hb, hg, hn, hm, by omega, by simpa using ht⟩
theorem Que.lt (h : Que w base e v xs) (b : Nat) (hb : v.ownBlock = some b) : b < w.heap.size ∧ base ≤ b := by
  rcases h with ⟨rfl, _⟩ | ⟨g, o, cap, cur, rfl, hbase, hg, _⟩
  · simp [Value.ownBlock] at hb
  · have : g = b := by simpa [Value.ownBlock] using hb
    subst this
    exact ⟨(Array.getElem?_eq_some_iff.1 hg).1, hbase⟩
theorem Que.far {S : List Nat} (h : Que w base e v xs) (k : Far S w w') (hn : ∀ b, v.ownBlock = some b → b ∉ S) : Que w' base e v xs := by
  have hlt := fun b hb => (h.lt b hb).1
  rcases h with h | ⟨g, o, cap, cur, rfl, hbase, hg, h3⟩
  · exact .inl h
  · refine .inr ⟨g, o, cap, cur, rfl, hbase, ?_, h3⟩
    rw [k.block g (hlt g rfl) (hn g rfl)]; exact hg
theorem Que.ne_row (h : Que w base e v xs) {b : Nat} {t : TypeId} {l : List Value} (hr : Row w b t l) (ht : e ≠ t) : v.ownBlock ≠ some b := by
  rcases h with ⟨rfl, _⟩ | ⟨g, o, cap, cur, rfl, hbase, hg, _⟩
  · simp [Value.ownBlock]
  · intro he
    have : g = b := by simpa [Value.ownBlock] using he
    subst this
    unfold Row at hr
    rw [hg] at hr
    simp only [Option.some.injEq, Obj.cells.injEq] at hr
    exact ht hr.2.1
theorem cell_at {cur : Array Value} {g : Nat} (hg : w.heap[g]? = some (.cells cur e (0, 0))) (i : Nat) : w.cell? ⟨g, i, none⟩ = cur[i]? := by
  simp [World.cell?, hg]
/-- One that is not empty: its first cell. -/
theorem Que.head {x : Value} (h : Que w base e v (x :: xs)) : ∃ g o cap, v = .slice (some ⟨g, o, none⟩) (xs.length + 1) cap ∧ xs.length + 1 ≤ cap ∧ cap ≤ maxLen ∧ w.cell? ⟨g, o, none⟩ = some x ∧
    Que w base e (.slice (if cap = 1 then some ⟨g, o, none⟩ else some ⟨g, o + 1, none⟩) xs.length (cap - 1)) xs := by
  rcases h with ⟨_, h⟩ | ⟨g, o, cap, cur, rfl, hbase, hg, hn, hm, hs, ht⟩
  · cases h
  · simp only [List.length_cons] at hn ht
    have hd : (cur.toList.drop o) = x :: (cur.toList.drop (o + 1)) ∧ (cur.toList.drop (o + 1)).take xs.length = xs := by
      have ho : o < cur.toList.length := by simp; omega
      rw [List.drop_eq_getElem_cons ho, List.take_succ_cons] at ht
      injection ht with h1 h2
      exact ⟨by rw [List.drop_eq_getElem_cons ho, h1], h2⟩
    refine ⟨g, o, cap, rfl, hn, hm, ?_, .inr ?_⟩
    · rw [cell_at hg]
      have := congrArg (·[0]?) hd.1
      simpa using this
    · by_cases hc : cap = 1
      · rw [if_pos hc]
        have hx : xs = [] := List.eq_nil_of_length_eq_zero (by omega)
        subst hx
        exact ⟨g, o, cap - 1, cur, rfl, hbase, hg, by omega, by omega, by omega, by simp⟩
      · rw [if_neg hc]
        exact ⟨g, o + 1, cap - 1, cur, rfl, hbase, hg, by omega, by omega, by omega, hd.2⟩
end
section
variable {P : Program} (w : World)
theorem run_push (base : Nat) (t ty e : TypeId) (z : Value) (bytes : Nat) (ht : P.underlying t = some (.slice e)) (hinfo : (P.info? e).map (fun i => (i.zero, i.size, i.bytes)) = some (some z, 1, bytes)) (hzs : z.cells.size = 1)
    (v : Value) (xs : List Value) (h : Que w base e v xs) (A : Addr) (x : Value) (hx : w.cell? A = some x) (h1 : x.oneCell' = true) (hsm : xs.length + 1 ≤ maxLen) (hbytes : (xs.length + 1) * bytes ≤ 140737488355328) (hbase : base ≤ w.heap.size) :
    ∃ v' w', (Builtin.append_ #[t, t] ty #[v, .slice (some A) 1 1]).run P w = .ok v' w' ∧ Que w' base e v' (xs ++ [x]) ∧ w.grownBy w' v.ownBlock ∧ (v'.ownBlock = v.ownBlock ∨ v'.ownBlock = some w.heap.size) := by
  obtain ⟨i, hi, hz, hsize, hby⟩ := info_parts hinfo
  have hnews : ∀ j u, [x][j]? = some u → w.cell? (A.add j) = some u := by
    intro j u hu
    cases j with
    | zero => simp at hu; subst hu; simpa [Addr.add] using hx
    | succ j => simp at hu
  have hone : ∀ u ∈ [x], u.oneCell' = true := by simpa using h1
  have hlen : (xs ++ [x]).length = xs.length + 1 := by simp
  have h63 : ((xs.length + 1 : Nat) : Int) ≤ 9223372036854775807 := by simp only [maxLen] at hsm; omega
  subst hby
  rcases h with ⟨rfl, rfl⟩ | ⟨g, o, cap, cur, rfl, hb, hg, hn, hm, hs, htk⟩
  · obtain ⟨v', w', hrun, h2, h3, _, h5⟩ := run_append_own_at (P := P) w base t ty e i z 1 i.bytes ht hi hz hsize rfl hzs (by omega) (.slice none 0 0) 0 [] (World.ownsRow_nil w base e 1) A 1 1 [x] rfl hnews hone (by omega) (by simpa using hbytes) hbase
    exact ⟨v', w', hrun, Que.of_own h2, h3, h5⟩
  · by_cases hroom : xs.length + 1 ≤ cap
    · have hr := run_append_room_cells (P := P) w t ty e i ht hi g o xs.length cap A 1 1 [x] (by simp [hsize]) hnews hone hroom (by
        intro j hj
        have : j = 0 := by simpa using hj
        subst this
        rw [hsize, Nat.mul_one, Nat.add_zero, cell_at hg]
        simp; omega) (by
        intro j _
        simp [World.frozen?, hg])
      refine ⟨_, _, hr, .inr ⟨g, o, cap, cur.setIfInBounds (o + xs.length) x, by rw [hlen], hb, ?_, by omega, hm, by simpa using hs, ?_⟩, ?_, .inl rfl⟩
      · rw [hsize, Nat.mul_one]
        simp [World.setCells, World.setCell, Array.getElem?_modify, hg]
      · rw [hlen, Array.toList_setIfInBounds, List.drop_set]
        rw [if_neg (by omega), show o + xs.length - o = xs.length from by omega]
        have hl : xs.length < (cur.toList.drop o).length := by simp; omega
        rw [List.take_succ_eq_append_getElem (by simpa using hl), List.take_set_of_le (Nat.le_refl _), htk]
        simp
      · rw [hsize, Nat.mul_one]
        refine ⟨rfl, rfl, rfl, by simp [World.setCells, World.setCell], fun k hk hne => ?_⟩
        exact Below.heap_setCell w ⟨g, o + xs.length, none⟩ x k (fun e => hne (by simp [Value.ownBlock, e]))
    · have holds : ∀ j u, xs[j]? = some u → w.cell? ((⟨g, o, none⟩ : Addr).add j) = some u := by
        intro j u hu
        have hj : j < xs.length := (List.getElem?_eq_some_iff.1 hu).1
        have e1 : (⟨g, o, none⟩ : Addr).add j = ⟨g, o + j, none⟩ := by
          unfold Addr.add; split
          · rename_i h0; subst h0; rfl
          · rfl
        rw [e1, cell_at hg]
        have := congrArg (·[j]?) htk
        simp only [List.getElem?_take, if_pos hj, List.getElem?_drop] at this
        rw [hu] at this
        simpa using this
      have hr := run_append_grow (P := P) w t ty e i z ht hi hz ⟨g, o, none⟩ xs.length cap xs (by simp [hsize]) holds A 1 1 [x] (by simp [hsize]) hnews (by omega) h63 (growslice_fits (by omega) hbytes)
      refine ⟨_, _, hr, .inr ⟨w.heap.size, 0, _, _, by rw [hlen], hbase, heap_alloc_new w.drew _, ?_, grownCap_le_maxLen w _ cap e hsm, ?_, ?_⟩, ⟨rfl, rfl, rfl, by simp, fun k hk _ => heap_alloc_old w.drew _ hk⟩, .inr rfl⟩
      · rw [hlen]; exact grownCap_ge w (xs.length + 1) cap e
      · have := grownCap_ge w (xs.length + 1) cap e
        simp [size_zeroCells, hzs]; omega
      · rw [hlen]
        simp
        rw [show xs.length + 1 = (xs ++ [x]).length from hlen.symm]
        rw [show xs ++ x :: (Builtin.zeroCells z.cells (grownCap w (xs ++ [x]).length cap e - (xs ++ [x]).length)).toList = (xs ++ [x]) ++ (Builtin.zeroCells z.cells (grownCap w (xs ++ [x]).length cap e - (xs ++ [x]).length)).toList from by simp]
        exact List.take_left
theorem wpList_push {ops : Array Oper} {rest : List Oper} {o : Oper} {a : Act} {Q : Exit → Act → World → Prop} (hgd : o.guard = none) (s x : Operand) (t : TypeId)
    (ho : o.op = .call { callee := .builtin .append, args := #[s, x], argTypes := #[t, t] })
    (base : Nat) (e : TypeId) (z : Value) (bytes : Nat) (ht : P.underlying t = some (.slice e)) (hinfo : (P.info? e).map (fun i => (i.zero, i.size, i.bytes)) = some (some z, 1, bytes)) (hzs : z.cells.size = 1)
    (v : Value) (xs : List Value) (hs : a.eval s = v) (hq : Que w base e v xs) (A : Addr) (u : Value) (hx : a.eval x = .slice (some A) 1 1) (hc : w.cell? A = some u) (h1 : u.oneCell' = true)
    (hsm : xs.length + 1 ≤ maxLen) (hbytes : (xs.length + 1) * bytes ≤ 140737488355328) (hbase : base ≤ w.heap.size)
    (h : ∀ v' w', Que w' base e v' (xs ++ [u]) → w.grownBy w' v.ownBlock → (v'.ownBlock = v.ownBlock ∨ v'.ownBlock = some w.heap.size) → wpList P ops Q rest (a.put o.dst v') w') :
    wpList P ops Q (o :: rest) a w := by
  refine wpList_plain hgd fun K hK => ?_
  obtain ⟨v', w', hrun, h2, h3, h5⟩ := run_push (P := P) w base t o.type e z bytes ht hinfo hzs v xs hq A u hc h1 hsm hbytes hbase
  unfold Oper.wp
  simp [execOp, ho, resolve, invoke, builtin, hs, hx, hrun, Result.andThen]
  exact hK _ _ (h v' w' h2 h3 h5)
end
end MQ
end Go.Proofs.Ytcfepiihjbbnaaa
