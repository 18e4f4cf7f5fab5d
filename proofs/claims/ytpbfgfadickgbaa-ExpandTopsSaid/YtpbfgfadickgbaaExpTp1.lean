/-
  Layer 8 in plain words: texts one behind the other have the forms of both; data that are alike have forms that are alike. No condition but sizes.
-/
import Derived.Test.YtpbfgfadickgbaaExpKd1
import Derived.Test.YtpbfgfadickgbaaExpL
import Derived.Test.YtpbfgfadickgbaaReadShift
namespace Go.Proofs.Ytpbfgfadickgbaa
namespace EX
open LX RX SX
theorem read_wt {s : ByteArray} {r : Rd} (h : read s = .ok r) : ∀ i ∈ r.tops, i < r.row.length ∧ wt r.row (.top i) ≤ 16 * r.row.length := fun i hi => by
  refine ⟨read_tops_lt h i hi, ?_⟩
  have h1 := sum_mem (f := fun i => T r.row i) hi
  have h2 := read_T h
  have : wt r.row (.top i) = 16 * T r.row i - 8 := rfl
  have h3 : T r.row i ≤ (r.tops.map (T r.row)).sum := h1
  omega
/-- A form further on: its place, its datum, its parts. -/
def shF (d N E : Nat) (f : Fm) : Fm := ⟨f.kind, f.at_ + (d : Int), if f.kind = 3 then f.n + (N : Int) else f.n, f.s, f.p, f.l.map (· + E)⟩
theorem fm_eq {f f' : Fm} {D E d : Nat} (h : FmE D E (fun x y => y = x + (d : Int)) f f') : f' = shF d D E f := by
  obtain ⟨⟨h1, h2, h3, h4, h5⟩, h6⟩ := h
  obtain ⟨k, a, n, s, p, l⟩ := f'
  simp only at h1 h2 h3 h4 h5 h6
  unfold shF
  rw [h1, h2, h3, h4, h5, h6]
theorem row_eq {st st' pre : List Fm} {D E d : Nat} (h : RowE D E (fun x y => y = x + (d : Int)) pre st st') : st' = pre ++ st.map (shF d D E) := by
  obtain ⟨_, m, rfl, h2, h3⟩ := h
  congr 1
  refine List.ext_getElem (by rw [List.length_map]; exact h2) fun k h4 h5 => ?_
  rw [List.getElem_map]
  exact fm_eq (h3 k (by rw [List.length_map] at h5; exact h5) h4)
theorem shF_none (f : Fm) : shF 0 0 0 f = f := by
  obtain ⟨k, a, n, s, p, l⟩ := f
  unfold shF
  simp
theorem ndAt_left {r m : List Nd} {i : Nat} (h : i < r.length) : ndAt (r ++ m) i = ndAt r i := by
  unfold ndAt
  rw [List.getD_eq_getElem?_getD, List.getD_eq_getElem?_getD, List.getElem?_append_left h]
theorem ndAt_right {r m : List Nd} (j : Nat) : ndAt (r ++ m) (j + r.length) = ndAt m j := by
  unfold ndAt
  rw [List.getD_eq_getElem?_getD, List.getD_eq_getElem?_getD, List.getElem?_append_right (by omega)]
  congr 2; omega
theorem ndAt_map {r : List Nd} {f : Nd → Nd} {j : Nat} (h : j < r.length) : ndAt (r.map f) j = f (ndAt r j) := by
  unfold ndAt
  rw [List.getD_eq_getElem?_getD, List.getD_eq_getElem?_getD, List.getElem?_map, List.getElem?_eq_getElem h]; rfl
theorem tops_joined {r1 r2 : Rd} {s1 s2 : ByteArray} (h1 : read s1 = .ok r1) (h2 : read s2 = .ok r2) (d : Nat) :
    expand (shR d r1.row r1.tops r2).row (shR d r1.row r1.tops r2).tops = match expand r1.row r1.tops with
      | .error a => .error a
      | .ok x => match expand r2.row r2.tops with
        | .error b => .error (b + (d : Int))
        | .ok y => .ok (x.1 ++ y.1.map (shF d r1.row.length x.1.length), x.2 ++ y.2.map (· + x.1.length)) := by
  obtain ⟨y, hy⟩ : ∃ y, r1.row ++ r2.row.map (shN d r1.row.length) = y := ⟨_, rfl⟩
  have e1 : (shR d r1.row r1.tops r2).row = y := hy
  have e2 : (shR d r1.row r1.tops r2).tops = r1.tops ++ r2.tops.map (· + r1.row.length) := rfl
  rw [e1, e2]
  have ok1 := read_ok_data h1
  have ok2 := read_ok_data h2
  have w1 := read_wt h1
  have w2 := read_wt h2
  have R1 : Rows 0 (fun x y => y = x + ((0 : Nat) : Int)) r1.row y := fun i hi => by
    have e : ndAt y (i + 0) = ndAt r1.row i := by rw [← hy]; exact ndAt_left hi
    rw [e]
    exact ⟨rfl, by simp, rfl, rfl, by simp⟩
  have R2 : Rows r1.row.length (fun x y => y = x + (d : Int)) r2.row y := fun i hi => by
    have e : ndAt y (i + r1.row.length) = shN d r1.row.length (ndAt r2.row i) := by rw [← hy, ndAt_right, ndAt_map hi]
    rw [e]
    exact ⟨rfl, rfl, rfl, rfl, rfl⟩
  have hlen : y.length = r1.row.length + r2.row.length := by rw [← hy]; simp
  unfold expand
  rw [runTops_app]
  have g1 := tops_E R1 ok1 (E := 0) (pre := []) (16 * y.length) r1.tops [] [] [] [] (fun i hi => ⟨(w1 i hi).1, by have := (w1 i hi).2; omega⟩) ⟨rfl, [], rfl, rfl, fun k hk => absurd hk (by simp)⟩
  have e0 : r1.tops.map (· + 0) = r1.tops := by simp
  rw [e0, List.map_nil, List.nil_append, tops_same ok1 (16 * y.length) (16 * r1.row.length) r1.tops [] [] (fun i hi => ⟨by have := (w1 i hi).2; omega, (w1 i hi).2⟩)] at g1
  generalize runTops r1.row (16 * r1.row.length) r1.tops [] [] = X at g1
  generalize runTops y (16 * y.length) r1.tops [] [] = X' at g1
  match X, X', g1 with
  | .error a, .error a', g =>
    have g : a' = a + ((0 : Nat) : Int) := g
    subst g
    simp
  | .ok (sa, ta), .ok (sa', ta'), g =>
    obtain ⟨k1, k2⟩ := g
    have k1 : sa' = [] ++ sa.map (shF 0 0 0) := row_eq k1
    rw [List.map_congr_left (g := id) (fun f _ => shF_none f), List.map_id, List.nil_append] at k1
    have k2 : ta' = [] ++ ta.map (· + 0) := k2
    rw [List.nil_append] at k2
    simp only [Nat.add_zero, List.map_id'] at k2
    rw [k1, k2]
    clear k1 k2
    simp only
    have g2 := tops_E R2 ok2 (E := sa.length) (pre := sa) (16 * y.length) r2.tops [] sa [] ta (fun i hi => ⟨(w2 i hi).1, by have := (w2 i hi).2; omega⟩) ⟨rfl, [], by simp, rfl, fun k hk => absurd hk (by simp)⟩
    rw [List.map_nil, List.append_nil, tops_same ok2 (16 * y.length) (16 * r2.row.length) r2.tops [] [] (fun i hi => ⟨by have := (w2 i hi).2; omega, (w2 i hi).2⟩)] at g2
    generalize runTops r2.row (16 * r2.row.length) r2.tops [] [] = Y at g2
    generalize runTops y (16 * y.length) (r2.tops.map (· + r1.row.length)) sa ta = Y' at g2
    match Y, Y', g2 with
    | .error a, .error a', g =>
      have g : a' = a + (d : Int) := g
      subst g
      rfl
    | .ok (sb, tb), .ok (sb', tb'), g =>
      obtain ⟨k3, k4⟩ := g
      have k3 : sb' = sa ++ sb.map (shF d r1.row.length sa.length) := row_eq k3
      have k4 : tb' = ta ++ tb.map (· + sa.length) := k4
      subst k3 k4
      rfl
/-- A form but for where it is. -/
def bareF (f : Fm) : Fm := ⟨f.kind, 0, f.n, f.s, f.p, f.l⟩
theorem bare_nd {r1 r2 : List Nd} (h : r2.map bare = r1.map bare) (i : Nat) : bare (ndAt r2 i) = bare (ndAt r1 i) := by
  have hl : r2.length = r1.length := by have := congrArg List.length h; simpa using this
  by_cases hi : i < r1.length
  · rw [← ndAt_map (f := bare) hi, ← h, ndAt_map (f := bare) (by omega)]
  · rw [nd_out hi, nd_out (by omega)]
/-- Data alike but for where they stand have forms alike but for where they are. -/
theorem tops_bare {s : ByteArray} {r1 r2 : Rd} (h1 : read s = .ok r1) (h : r2.row.map bare = r1.row.map bare) (ht : r2.tops = r1.tops) : match expand r1.row r1.tops, expand r2.row r2.tops with
    | .error _, .error _ => True
    | .ok x, .ok y => y.1.map bareF = x.1.map bareF ∧ y.2 = x.2
    | _, _ => False := by
  have ok1 := read_ok_data h1
  have w1 := read_wt h1
  have hl : r2.row.length = r1.row.length := by have := congrArg List.length h; simpa using this
  have R : Rows 0 (fun _ _ => True) r1.row r2.row := fun i hi => by
    have hb := bare_nd h i
    rw [Nat.add_zero]
    generalize ndAt r1.row i = x at hb
    generalize ndAt r2.row i = x' at hb
    obtain ⟨a, b, c, d, l⟩ := x
    obtain ⟨a', b', c', d', l'⟩ := x'
    simp only [bare, Nd.mk.injEq] at hb
    obtain ⟨q1, _, q2, q3, q4⟩ := hb
    exact ⟨q1, trivial, q2, q3, by rw [q4]; simp⟩
  have g := tops_E R ok1 (E := 0) (pre := []) (16 * r1.row.length) r1.tops [] [] [] [] w1 ⟨rfl, [], rfl, rfl, fun k hk => absurd hk (by simp)⟩
  have e0 : r1.tops.map (· + 0) = r1.tops := by simp
  rw [e0, List.map_nil, List.nil_append] at g
  unfold expand
  rw [hl, ht]
  generalize runTops r1.row (16 * r1.row.length) r1.tops [] [] = X at g
  generalize runTops r2.row (16 * r1.row.length) r1.tops [] [] = X' at g
  match X, X', g with
  | .error a, .error a', g => trivial
  | .ok (sa, ta), .ok (sa', ta'), g =>
    obtain ⟨⟨_, m, k1, k3, k4⟩, k2⟩ := g
    have k1 : sa' = [] ++ m := k1
    have k2 : ta' = [] ++ ta.map (· + 0) := k2
    rw [List.nil_append] at k1
    have k2 : ta' = ta := by rw [k2]; simp
    subst k1 k2
    refine ⟨?_, rfl⟩
    show sa'.map bareF = sa.map bareF
    refine List.ext_getElem (by rw [List.length_map, List.length_map]; exact k3) fun k h4 h5 => ?_
    rw [List.getElem_map, List.getElem_map]
    rw [List.length_map] at h4 h5
    obtain ⟨⟨q1, _, q3, q4, q5⟩, q6⟩ := k4 k h5 h4
    unfold bareF
    rw [q1, q3, q4, q5, q6]
    simp
/-! ### data shown, a line each -/
def backN (ns : List Nd) (tops : List Nat) : List UInt8 := tops.flatMap fun i => dt ns i ++ [10]
theorem lexL_line (rest : List UInt8) (p : Nat) (out : List Tk) : lexL (10 :: rest) p out = lexL rest (p + 1) out := by
  rw [lexL_step]
  rfl
/-- The text D is the tokens U, whatever comes behind it. -/
def LexAll (D : List UInt8) (U : List Tk) : Prop := ∀ (rest : List UInt8) (p : Nat) (out : List Tk), ∃ T, T.map bareT = U ∧ lexL (D ++ rest) p out = lexL rest (p + D.length) (out ++ T)
theorem LexAll.to {D : List UInt8} {U : List Tk} (h : LexAll D U) : LexTo D U := fun rest _ p out => h rest p out
theorem LexAll.nil : LexAll [] [] := fun rest p out => ⟨[], rfl, by simp⟩
theorem LexAll.app {A B : List UInt8} {U V : List Tk} (hA : LexAll A U) (hB : LexAll B V) : LexAll (A ++ B) (U ++ V) := by
  intro rest p out
  obtain ⟨T, e1, e2⟩ := hA (B ++ rest) p out
  obtain ⟨S, e3, e4⟩ := hB rest (p + A.length) (out ++ T)
  refine ⟨T ++ S, by rw [List.map_append, e1, e3], ?_⟩
  rw [List.append_assoc, e2, e4, List.length_append, List.append_assoc, Nat.add_assoc]
theorem LexAll.line {D : List UInt8} {U : List Tk} (h : LexTo D U) : LexAll (D ++ [10]) U := by
  intro rest p out
  obtain ⟨T, e1, e2⟩ := h (10 :: rest) (stop_cons (by decide) _) p out
  refine ⟨T, e1, ?_⟩
  rw [List.append_assoc, List.singleton_append, e2, lexL_line, List.length_append]
  rfl
theorem again_rowN {ns : List Nd} (hE : ∀ b c, Dat ns 50 b c → c < ns.length ∧ Again ns 50 b c) {a b : Nat} {l : List Nat} (h : Ch (Dat ns 50) a b l) :
    ∃ U, LexAll (backN ns l) U ∧ ∀ t : List Nat, tokens U ⟨(ns.map bare).take a, t, []⟩ = .ok ⟨(ns.map bare).take b, t ++ l, []⟩ := by
  induction h with
  | nil => exact ⟨[], LexAll.nil, fun t => by simp [tokens]⟩
  | @snoc b c l h1 h2 ih =>
    obtain ⟨hc, V, hV1, hV2⟩ := hE b c h2
    obtain ⟨U, hU1, hU2⟩ := ih
    refine ⟨U ++ V, ?_, fun t => ?_⟩
    · have e : backN ns (l ++ [c]) = backN ns l ++ (dt ns c ++ [10]) := by unfold backN; rw [List.flatMap_append]; simp
      rw [e]
      exact hU1.app (LexAll.line hV1)
    · rw [tokens_app, hU2]
      simp only
      rw [hV2 ⟨(ns.map bare).take b, t ++ l, []⟩ rfl rfl]
      simp only [putO, SX.take_snoc hc, SX.take_len hc, List.append_assoc]
theorem back_anyN {s : ByteArray} {r : Rd} (h : read s = .ok r) (hl : (backN r.row r.tops).length ≤ 4000) : ∃ r2, read (str (backN r.row r.tops)) = .ok r2 ∧ r2.row.map bare = r.row.map bare ∧ r2.tops = r.tops := by
  have hok := read_ok_data h
  obtain ⟨U, hU1, hU2⟩ := again_rowN (again_any hok 50) (read_dat h)
  obtain ⟨T, e1, e2⟩ := lex_to hU1.to hl
  have ht := hU2 []
  rw [← e2] at ht
  have hall : (r.row.map bare).take r.row.length = r.row.map bare := List.take_of_length_le (by simp)
  rw [List.take_zero, hall, List.nil_append] at ht
  obtain ⟨r2, g1, g2, g3⟩ := fin_back ht
  exact ⟨r2, by rw [read_fin e1]; exact g1, g2, g3⟩
end EX
end Go.Proofs.Ytpbfgfadickgbaa
