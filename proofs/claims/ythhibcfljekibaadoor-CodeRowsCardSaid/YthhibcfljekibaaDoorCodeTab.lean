/-
  From what a row lists of the program's tables to what the contracts ask. No condition.
-/
import Derived.Test.YthhibcfljekibaaDoorCodeArg
import Derived.Lib.LaidTab
import Derived.ChangeSame
import Derived.Deep.Slices
namespace Go.Proofs.YthhibcfljekibaaDoor
open Go.RowKit
set_option linter.unusedVariables false
namespace KP
def spcT : List Int := (List.range 256).map fun b => spc (b : Nat)
end KP
namespace KW
open KP
def primL : List (ByteArray × Int) := (emp, 0) :: (primN.zip primM).map fun x => (x.1, (x.2 : Int))
theorem primC_eq : primC = primL.flatMap fun x => [.string x.1, .int .i64 x.2] := by kernel_rfl
def primD : DataW Unit := .agg (primL.map fun x => .agg [.lit (.string x.1.data.toList), .lit (.int .i64 x.2)])
theorem laid_at9 {P : Program} {w : World} : ∀ (L : List (String × DataW Unit)) (ps : List MemPlace) (i : Nat) (n : String) (d : DataW Unit), DataW.LaidVars P w L ps → L[i]? = some (n, d) →
    ∃ g t cs fuel p, P.globalNamed n = some g ∧ (P.globals[g]?).map (·.type) = some t ∧ w.var? P n = some cs ∧ DataW.trod (fun _ => ()) P w 0 (fun _ => true) false fuel t cs.toList = some (d, p) := by
  intro L
  induction L with
  | nil => intro ps i n d _ h; simp at h
  | cons x L ih =>
    intro ps i n d h hi
    obtain ⟨m, e⟩ := x
    obtain ⟨g, t, cs, fuel, p, q, h1, h2, h3, h4, h5, _⟩ := h
    cases i with
    | zero =>
      simp only [List.getElem?_cons_zero, Option.some.injEq, Prod.mk.injEq] at hi
      obtain ⟨rfl, rfl⟩ := hi
      exact ⟨g, t, cs, fuel, p, h1, h2, h3, h4⟩
    | succ i => exact ih q i n d h5 (by simpa using hi)
theorem trod_arr {H : Type} {enc : TypeId × Value → H} {P : Program} {w : World} {base : Nat} {sp : Nat → Bool} {held : Bool} {fuel : Nat} {t e : TypeId} {n c : Nat} {cs : List Value} {ds : List (DataW H)} {p : List MemPlace}
    (ht : P.underlying t = some (.array n e)) (hce : P.cellsOf e = c) (hct : P.cellsOf t = n * c) (h : DataW.trod enc P w base sp held fuel t cs = some (.agg ds, p)) :
    cs.length = n * c ∧ ∃ m, ∀ i, i < n → ∃ x, ds[i]? = some x.1 ∧ DataW.trod enc P w base sp held m e ((cs.drop (i * c)).take c) = some x := by
  cases fuel with
  | zero => simp [DataW.trod] at h
  | succ fuel =>
    simp only [DataW.trod, ht, hce, hct] at h
    split at h
    · rename_i hl
      obtain ⟨xs, hm, hx⟩ := Option.map_eq_some_iff.1 h
      have hxs : xs.map (·.1) = ds := by
        have := congrArg Prod.fst hx
        simpa using this
      refine ⟨by simpa using hl, fuel, fun i hi => ?_⟩
      obtain ⟨b, hb, hf⟩ := Lib.mapM_at hm i i (by simp [hi])
      exact ⟨b, by rw [← hxs]; simp [hb], hf⟩
    · cases h
theorem prim_type : (Tryd.prog.globals[(Tryd.prog.globalNamed "eddywheel/scope.primitives").getD 0]?).map (·.type) = some 71 := by kernel_rfl
theorem prim_eq {W : World} {cs : Array Value} {fuel : Nat} {p : List MemPlace} (h4 : DataW.trod (fun _ => ()) Tryd.prog W 0 (fun _ => true) false fuel 71 cs.toList = some (primD, p)) : cs.toList = primC := by
  obtain ⟨hl, m, hx⟩ := trod_arr (c := 2) Tryd.underlying71 (by kernel_rfl) (by kernel_rfl) h4
  rw [primC_eq]
  apply List.ext_getElem?
  intro j
  obtain ⟨k, r, rfl, hr⟩ : ∃ k r, j = k * 2 + r ∧ r < 2 := ⟨j / 2, j % 2, by omega, by omega⟩
  by_cases hk : k < 31
  · obtain ⟨x, hd, hf⟩ := hx k hk
    obtain ⟨y0, y1, n, rfl, hl2, g0, g1⟩ := Go.ChangeShapes.trod_struct2 Tryd.underlying70 hf
    obtain ⟨s, e0, rfl, _⟩ := DataW.trod_string Tryd.underlying9 g0
    obtain ⟨z, e1, rfl, _⟩ := DataW.trod_int Tryd.underlying3 g1
    have hk2 : k < primL.length := hk
    rw [List.getElem?_map, List.getElem?_eq_getElem hk2] at hd
    simp only [Option.map_some, Option.some.injEq, DataW.agg.injEq, List.cons.injEq, DataW.lit.injEq, Lit.string.injEq, Lit.int.injEq, true_and, and_true] at hd
    obtain ⟨d1, d2⟩ := hd
    have hs : s = primL[k].1 := by
      obtain ⟨⟨l⟩⟩ := s
      generalize primL[k].1 = q at d1
      obtain ⟨⟨l2⟩⟩ := q
      simp only at d1
      rw [d1]
    have f0 : cs.toList[k * 2]? = some (.string s) := by
      have := congrArg (·[0]?) e0
      have : 0 < Tryd.prog.cellsOf 9 ∧ cs[k * 2]? = some (Value.string s) := by simpa [List.getElem?_take, List.getElem?_drop] using this
      simpa using this.2
    have f1 : cs.toList[k * 2 + 1]? = some (.int .i64 z) := by
      have := congrArg (·[0]?) e1
      have : 0 < Tryd.prog.cellsOf 3 ∧ cs[k * 2 + 1]? = some (Value.int .i64 z) := by simpa [List.getElem?_take, List.getElem?_drop] using this
      simpa using this.2
    have key : ∀ (l : List (ByteArray × Int)) (k : Nat) (hk : k < l.length) (r : Nat), r < 2 → (l.flatMap fun x => [Value.string x.1, .int .i64 x.2])[k * 2 + r]? = ([Value.string l[k].1, .int .i64 l[k].2] : List Value)[r]? := by
      intro l
      induction l with
      | nil => intro k hk; simp at hk
      | cons x l ih =>
        intro k hk r hr
        rw [List.flatMap_cons]
        cases k with
        | zero => rw [Nat.zero_mul, Nat.zero_add, List.getElem?_append_left (by simp; omega)]; rfl
        | succ k =>
          rw [List.getElem?_append_right (by simp; omega)]
          rw [show (k + 1) * 2 + r - [Value.string x.1, Value.int IntKind.i64 x.2].length = k * 2 + r from by simp; omega]
          exact ih k (by simpa using hk) r hr
    rw [key primL k hk2 r hr, ← hs, d2]
    match r, hr with
    | 0, _ => exact f0
    | 1, _ => exact f1
  · have hlen : (primL.flatMap fun x => [Value.string x.1, .int .i64 x.2]).length = 62 := by rw [← primC_eq]; rfl
    rw [List.getElem?_eq_none (by omega), List.getElem?_eq_none (by omega)]

theorem ft_slice {W : World} {cell : Value} {fuel : Nat} {d : DataW Unit} {p : List MemPlace} {vs : List Int} (h : DataW.trod (fun _ => ()) Tryd.prog W 0 (fun _ => true) false fuel 32 [cell] = some (d, p)) (hd : d = .slice (vs.map fun v => .lit (.int .i64 v)) [] ∨ (d = .nil ∧ vs = [])) :
    ∃ A c, cell = .slice A vs.length c ∧ vs.length ≤ c ∧ c ≤ maxLen ∧ ∀ (j : Nat) (v : Int), vs[j]? = some v → ∃ b o, A = some ⟨b, o, none⟩ ∧ b < W.heap.size ∧ W.cell? ⟨b, o + j, none⟩ = some (num v) := by
  rcases Go.Deep.open_slice1 Tryd.underlying32 (by kernel_rfl) h with ⟨e1, e2⟩ | ⟨a, len, cap, m, n, V, D, Pl, e1, _, hl, hm, hmm, e2, hx⟩
  · injection e2 with e2 _
    subst e2
    rcases hd with hd | ⟨_, rfl⟩
    · cases hd
    · injection e1 with e1
      exact ⟨none, 0, e1, Nat.le_refl _, Nat.zero_le _, fun j v hj => by simp at hj⟩
  · injection e2 with e2 _
    subst e2
    rcases hd with hd | ⟨hd, _⟩
    · injection hd with hd _
      injection e1 with e1
      have hlen : len = vs.length := by simpa using congrArg List.length hd
      refine ⟨some a, cap, by rw [← hlen]; exact e1, by rw [← hlen]; exact hl, hm, fun j v hj => ?_⟩
      have hjl : j < vs.length := (List.getElem?_eq_some_iff.1 hj).1
      obtain ⟨h1, h2⟩ := hx j (by simp at hmm; omega)
      have hD : D j = .lit (.int .i64 v) := by
        have := congrArg (·[j]?) hd
        simp only [List.getElem?_map, hj, Option.map_some] at this
        rw [List.getElem?_range (by omega)] at this
        simpa using this
      obtain ⟨z, h3, h4, _⟩ := DataW.trod_int Tryd.underlying3 h2
      have hz : z = v := by
        have := congrArg Prod.fst h4
        simp only at this
        rw [hD] at this
        injection this with this
        injection this with _ this
        exact this.symm
      have hV : V j = num v := by
        injection h3 with h3
        rw [h3, hz]
      rw [hV] at h1
      obtain ⟨b, o, spot⟩ := a
      have h0 : 0 < len := by omega
      obtain rfl : spot = none := by
        obtain ⟨h5, _⟩ := hx 0 (by simp at hmm; omega)
        have := World.cell?_spot h5
        unfold Addr.add at this
        simpa using this
      have e3 : (⟨b, o, none⟩ : Addr).add j = ⟨b, o + j, none⟩ := by
        unfold Addr.add
        split
        · rename_i h; subst h; rfl
        · rfl
      rw [e3] at h1
      refine ⟨b, o, rfl, MR.cell_lt h1, h1⟩
    · cases hd
def fieldD : DataW Unit := .agg (.nil :: (ownL.drop 1).map fun l => .slice (l.map fun v => .lit (.int .i64 v)) [])
theorem fields_type : (Tryd.prog.globals[(Tryd.prog.globalNamed "eddywheel/code.fields").getD 0]?).map (·.type) = some 85 := by kernel_rfl
theorem fields_named : Tryd.prog.globalNamed "eddywheel/code.fields" = some 3 := by kernel_rfl
theorem space_named : Tryd.prog.globalNamed "strings.asciiSpace" = some 0 := by kernel_rfl
theorem space_type : (Tryd.prog.globals[(Tryd.prog.globalNamed "strings.asciiSpace").getD 0]?).map (·.type) = some 66 := by kernel_rfl
theorem var_cell {w : World} {n : String} {g : Nat} {cs : Array Value} (hn : Tryd.prog.globalNamed n = some g) (h : w.var? Tryd.prog n = some cs) : g < w.heap.size ∧ ∀ i, w.cell? ⟨g, i, none⟩ = cs[i]? := by
  unfold World.var? at h
  rw [hn] at h
  simp only [Option.bind_some] at h
  split at h
  · rename_i c t fr e
    injection h with h
    subst h
    exact ⟨(Array.getElem?_eq_some_iff.1 e).1, fun i => by simp [World.cell?, e]⟩
  · cases h
theorem tt_of {W : World} {L : List (String × DataW Unit)} (h : laidMetH Tryd.prog L W) (hH : (L.filter fun x => x.2.handleName?.isSome) = []) (h1 : L[1]? = some ("strings.asciiSpace", Lib.tabData .u8 spcT)) (h2 : L[2]? = some ("eddywheel/scope.primitives", primD)) (h3 : L[3]? = some ("eddywheel/code.fields", fieldD)) : TT W := by
  unfold laidMetH at h
  rw [hH] at h
  obtain ⟨ps, hv, _⟩ := h
  refine ⟨?_, ?_, ?_⟩
  · obtain ⟨g, t, cs, fuel, p, q1, q2, q3, q4⟩ := laid_at9 _ _ _ _ _ hv h3
    have ht := fields_type
    rw [q1] at ht
    obtain rfl := Option.some.inj (ht.symm.trans q2)
    obtain ⟨hlt, hcell⟩ := var_cell fields_named q3
    obtain ⟨hl, m, hx⟩ := trod_arr (c := 1) Tryd.underlying85 (by kernel_rfl) (by kernel_rfl) q4
    refine ⟨hlt, fun k hk => ?_⟩
    obtain ⟨x, hd, hf⟩ := hx k hk
    have hkl : k < cs.toList.length := by rw [hl]; omega
    have e1 : (cs.toList.drop (k * 1)).take 1 = [cs.toList[k]] := by
      rw [Nat.mul_one, List.drop_eq_getElem_cons hkl]; rfl
    rw [e1] at hf
    have hdk : x.1 = .slice ((own k).map fun v => .lit (.int .i64 v)) [] ∨ (x.1 = .nil ∧ own k = []) := by
      have key : ∀ j : Nat, j < 17 → ((.nil : DataW Unit) :: (ownL.drop 1).map fun l => .slice (l.map fun v => .lit (.int .i64 v)) [])[j]? = some (if j = 0 then .nil else .slice ((own j).map fun v => .lit (.int .i64 v)) []) := by
        intro j hj
        match j, hj with
        | 0, _ => rfl
        | 1, _ => rfl
        | 2, _ => rfl
        | 3, _ => rfl
        | 4, _ => rfl
        | 5, _ => rfl
        | 6, _ => rfl
        | 7, _ => rfl
        | 8, _ => rfl
        | 9, _ => rfl
        | 10, _ => rfl
        | 11, _ => rfl
        | 12, _ => rfl
        | 13, _ => rfl
        | 14, _ => rfl
        | 15, _ => rfl
        | 16, _ => rfl
        | j + 17, h => exact absurd h (by omega)
      rw [key k hk] at hd
      injection hd with hd
      by_cases h0 : k = 0
      · rw [if_pos h0] at hd; subst h0; exact .inr ⟨hd.symm, rfl⟩
      · rw [if_neg h0] at hd; exact .inl hd.symm
    obtain ⟨A, c, a1, a2, a3, a4⟩ := ft_slice hf hdk
    refine ⟨A, c, ?_, a2, a3, a4⟩
    rw [hcell k, ← a1]
    rw [← Array.getElem?_toList, List.getElem?_eq_getElem hkl]
  · obtain ⟨g, t, cs, fuel, p, q1, q2, q3, q4⟩ := laid_at9 _ _ _ _ _ hv h1
    have ht := space_type
    rw [q1] at ht
    obtain rfl := Option.some.inj (ht.symm.trans q2)
    have hT : Lib.TabIs Tryd.prog W "strings.asciiSpace" .u8 spcT := by
      unfold Lib.TabIs
      rw [q3, ← Lib.cells_of_tab Tryd.underlying66 Tryd.underlying5 (by kernel_rfl) (by kernel_rfl) q4]
    obtain ⟨hlt, hcell⟩ := var_cell space_named q3
    refine ⟨hlt, fun b hb => ?_⟩
    have := hT.cell space_named b (by simpa [spcT] using hb)
    rw [this]
    simp only [spcT, List.getD_eq_getElem?_getD, List.getElem?_map]
    rw [List.getElem?_range hb]; rfl
  · obtain ⟨g, t, cs, fuel, p, q1, q2, q3, q4⟩ := laid_at9 _ _ _ _ _ hv h2
    have ht := prim_type
    rw [q1] at ht
    obtain rfl := Option.some.inj (ht.symm.trans q2)
    unfold PT
    rw [q3]
    rw [← prim_eq q4]
end KW
end Go.Proofs.YthhibcfljekibaaDoor
