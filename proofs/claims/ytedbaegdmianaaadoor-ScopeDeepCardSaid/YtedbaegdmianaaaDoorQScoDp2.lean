/-
  Layer 9's ScopeDeep: its texts as forms, and resolved. No condition.
-/
import Derived.Test.YtedbaegdmianaaaDoorQScoDp1
namespace Go.Proofs.YtedbaegdmianaaaDoor
namespace SC
open LX RX SX EX
def dpS (l : List Nat) (c : Nat) : ByteArray := ⟨(dpB l c).toArray⟩
theorem read_dpS (l : List Nat) (c : Nat) (hl : ∀ c ∈ l, c < 4) (hc : c < 4) (hn : l.length ≤ 40) : RX.read (dpS l c) = .ok ⟨dpN l c, [4 * l.length], []⟩ := by
  have hsz : (dpS l c).size = 13 * l.length + 1 := by
    show (dpB l c).toArray.size = _
    rw [List.size_toArray, dpB_len]
  unfold RX.read LX.lex
  rw [if_neg (by omega)]
  have e : bts (dpS l c) = dpB l c := by simp [bts, dpS]
  rw [e, lex_dp l c hl hc]
  exact read_dp l c hn
theorem dpN_len (l : List Nat) (c : Nat) : (dpN l c).length = 4 * l.length + 1 := by
  simp [dpN, lvsN_len, clN_len]; omega
theorem lvs_at : ∀ (l : List Nat) (j i : Nat) (r : List Nd), i < l.length → (lvsN l j ++ r).getD (3 * i) nd0 = ⟨3, (12 * (j + i) + 1 : Nat), 0, nLambda, []⟩ ∧ (lvsN l j ++ r).getD (3 * i + 1) nd0 = ⟨3, (12 * (j + i) + 9 : Nat), 0, nmB (l.getD i 0), []⟩ ∧ (lvsN l j ++ r).getD (3 * i + 2) nd0 = ⟨4, (12 * (j + i) + 8 : Nat), 0, emp, [3 * (j + i) + 1]⟩ := by
  intro l
  induction l with
  | nil => intro j i r h; cases h
  | cons x l ih =>
    intro j i r h
    cases i with
    | zero => exact ⟨rfl, rfl, rfl⟩
    | succ i =>
      rw [List.length_cons] at h
      obtain ⟨h1, h2, h3⟩ := ih (j + 1) i r (by omega)
      have e : lvsN (x :: l) j ++ r = ⟨3, (12 * j + 1 : Nat), 0, nLambda, []⟩ :: ⟨3, (12 * j + 9 : Nat), 0, nmB x, []⟩ :: ⟨4, (12 * j + 8 : Nat), 0, emp, [3 * j + 1]⟩ :: (lvsN l (j + 1) ++ r) := rfl
      have e2 : j + 1 + i = j + (i + 1) := by omega
      rw [e2] at h1 h2 h3
      rw [e]
      refine ⟨?_, ?_, ?_⟩
      · rw [show 3 * (i + 1) = 3 * i + 1 + 1 + 1 by omega]
        simp only [List.getD_cons_succ]; exact h1
      · rw [show 3 * (i + 1) + 1 = 3 * i + 1 + 1 + 1 + 1 by omega]
        simp only [List.getD_cons_succ]; exact h2
      · rw [show 3 * (i + 1) + 2 = 3 * i + 2 + 1 + 1 + 1 by omega]
        simp only [List.getD_cons_succ]; exact h3
theorem cl_at : ∀ (i m k : Nat), k < i → (clN i m).getD k nd0 = ⟨4, (12 * (i - 1 - k) : Nat), 0, emp, [3 * (i - 1 - k), 3 * (i - 1 - k) + 2, m + k]⟩ := by
  intro i
  induction i with
  | zero => intro m k h; cases h
  | succ i ih =>
    intro m k h
    cases k with
    | zero => rfl
    | succ k =>
      unfold clN
      rw [List.getD_cons_succ, ih (m + 1) k (by omega)]
      rw [show i + 1 - 1 - (k + 1) = i - 1 - k by omega, show m + 1 + k = m + (k + 1) by omega]
theorem dp_lam (l : List Nat) (c i : Nat) (h : i < l.length) : (ndAt (dpN l c) (3 * i)).s = nLambda := by
  unfold ndAt dpN
  rw [(lvs_at l 0 i _ h).1]
theorem dp_par (l : List Nat) (c i : Nat) (h : i < l.length) : ndAt (dpN l c) (3 * i + 1) = ⟨3, (12 * i + 9 : Nat), 0, nmB (l.getD i 0), []⟩ := by
  unfold ndAt dpN
  rw [(lvs_at l 0 i _ h).2.1, Nat.zero_add]
theorem dp_row (l : List Nat) (c i : Nat) (h : i < l.length) : ndAt (dpN l c) (3 * i + 2) = ⟨4, (12 * i + 8 : Nat), 0, emp, [3 * i + 1]⟩ := by
  unfold ndAt dpN
  rw [(lvs_at l 0 i _ h).2.2, Nat.zero_add]
theorem dp_name (l : List Nat) (c : Nat) : ndAt (dpN l c) (3 * l.length) = ⟨3, (12 * l.length : Nat), 0, nmB c, []⟩ := by
  unfold ndAt dpN
  rw [List.getD_eq_getElem?_getD, List.getElem?_append_right (by rw [lvsN_len]; exact Nat.le_refl _), lvsN_len, Nat.sub_self]
  rfl
theorem dp_list (l : List Nat) (c k : Nat) (h : k < l.length) : ndAt (dpN l c) (3 * l.length + 1 + k) = ⟨4, (12 * (l.length - 1 - k) : Nat), 0, emp, [3 * (l.length - 1 - k), 3 * (l.length - 1 - k) + 2, 3 * l.length + k]⟩ := by
  unfold ndAt dpN
  rw [List.getD_eq_getElem?_getD, List.getElem?_append_right (by rw [lvsN_len]; omega), lvsN_len, show 3 * l.length + 1 + k - 3 * l.length = k + 1 by omega, List.getElem?_cons_succ, ← List.getD_eq_getElem?_getD]
  exact cl_at l.length (3 * l.length) k h
/-! ### as forms -/
def dpf (l : List Nat) (t : Nat) : Fm := ⟨6, (12 * (l.length - 1 - t) : Nat), 0, emp, [nmB (l.getD (l.length - 1 - t) 0)], [t]⟩
def dpF (l : List Nat) (c k : Nat) : List Fm := ⟨4, (12 * l.length : Nat), 0, nmB c, [], []⟩ :: (List.range k).map (dpf l)
theorem dpF_len (l : List Nat) (c k : Nat) : (dpF l c k).length = k + 1 := by simp [dpF]
theorem dpF_succ (l : List Nat) (c k : Nat) : dpF l c (k + 1) = dpF l c k ++ [dpf l k] := by simp [dpF, List.range_succ]
theorem nm_free (c : Nat) (hc : c < 4) : reserved (nmB c) = false ∧ nmB c ≠ emp := by
  rcases c with _ | _ | _ | _ | c
  · decide +kernel
  · decide +kernel
  · decide +kernel
  · decide +kernel
  · omega
theorem getD_lt {l : List Nat} (hl : ∀ c ∈ l, c < 4) (i : Nat) : l.getD i 0 < 4 := by
  rw [List.getD_eq_getElem?_getD]
  by_cases h : i < l.length
  · rw [List.getElem?_eq_getElem h]
    exact hl _ (List.getElem_mem h)
  · rw [List.getElem?_eq_none (by omega)]; decide
theorem plan_name (l : List Nat) (c : Nat) (hc : c < 4) (top : Bool) : plan (dpN l c) (3 * l.length) top = .mk ⟨4, (12 * l.length : Nat), 0, nmB c, [], []⟩ [] := by
  unfold plan
  rw [dp_name]
  simp [(nm_free c hc).1]
theorem plan_list (l : List Nat) (c k : Nat) (hl : ∀ c ∈ l, c < 4) (h : k < l.length) (top : Bool) : plan (dpN l c) (3 * l.length + 1 + k) top = .mk ⟨6, (12 * (l.length - 1 - k) : Nat), 0, emp, [nmB (l.getD (l.length - 1 - k) 0)], []⟩ [.dat (3 * l.length + k)] := by
  have hi : l.length - 1 - k < l.length := by omega
  obtain ⟨f1, f2⟩ := nm_free _ (getD_lt hl (l.length - 1 - k))
  have hs : reserved nLambda = true := by decide +kernel
  unfold plan
  rw [dp_list l c k h]
  generalize hI : l.length - 1 - k = i at *
  show (if (4 : Int) = 1 then _ else if (4 : Int) = 2 then _ else if (4 : Int) = 3 then _ else listP (dpN l c) ⟨4, (12 * i : Nat), 0, emp, [3 * i, 3 * i + 2, 3 * l.length + k]⟩ top) = _
  rw [if_neg (by decide), if_neg (by decide), if_neg (by decide)]
  unfold listP
  simp only [List.getD_cons_zero, dp_lam l c i hi, hs, if_true]
  rw [if_neg (by simp)]
  have e : EX.shape (dpN l c) nLambda (12 * i : Nat) [3 * i + 2, 3 * l.length + k] top = lambdaP (dpN l c) (12 * i : Nat) [3 * i + 2, 3 * l.length + k] := by
    unfold EX.shape
    rw [if_neg (by show ¬ 2 < least nLambda; decide +kernel), if_neg (by decide +kernel), if_neg (by decide +kernel), if_pos rfl]
  show EX.shape (dpN l c) nLambda (12 * i : Nat) [3 * i + 2, 3 * l.length + k] top = _
  rw [e]
  unfold lambdaP
  simp only [List.getD_cons_zero, dp_row l c i hi]
  have e3 : namesOf (dpN l c) [3 * i + 1] = some [nmB (l.getD i 0)] := by
    unfold namesOf
    simp only [namesG, nameOf, dp_par l c i hi]
    rw [if_neg (by rw [f1]; simpa using f2)]
    rfl
  rw [e3]
  simp [function, body]
theorem run_dp (l : List Nat) (c : Nat) (hl : ∀ c ∈ l, c < 4) (hc : c < 4) : ∀ k, k ≤ l.length → ∀ f, k < f → ∀ p, p = .dat (3 * l.length + k) ∨ p = .top (3 * l.length + k) → run (dpN l c) f p [] = .ok (dpF l c k, k) := by
  intro k
  induction k with
  | zero =>
    intro _ f hf p hp
    obtain ⟨f, rfl⟩ : ∃ g, f = g + 1 := ⟨f - 1, by omega⟩
    have e : ev (dpN l c) p = .mk ⟨4, (12 * l.length : Nat), 0, nmB c, [], []⟩ [] := by
      rcases hp with rfl | rfl
      · exact plan_name l c hc false
      · exact plan_name l c hc true
    rw [run, e]
    simp [onPl, runs, dpF]
  | succ k ih =>
    intro hk f hf p hp
    obtain ⟨f, rfl⟩ : ∃ g, f = g + 1 := ⟨f - 1, by omega⟩
    have e : ev (dpN l c) p = .mk ⟨6, (12 * (l.length - 1 - k) : Nat), 0, emp, [nmB (l.getD (l.length - 1 - k) 0)], []⟩ [.dat (3 * l.length + k)] := by
      rcases hp with rfl | rfl
      · exact (show 3 * l.length + (k + 1) = 3 * l.length + 1 + k by omega) ▸ plan_list l c k hl (by omega) false
      · exact (show 3 * l.length + (k + 1) = 3 * l.length + 1 + k by omega) ▸ plan_list l c k hl (by omega) true
    have h1 := ih (by omega) f (by omega) (.dat (3 * l.length + k)) (.inl rfl)
    rw [run, e]
    simp only [onPl, runs, h1, dpF_len, List.nil_append]
    rw [dpF_succ]
    rfl
theorem expand_dp (l : List Nat) (c : Nat) (hl : ∀ c ∈ l, c < 4) (hc : c < 4) : expand (dpN l c) [4 * l.length] = .ok (dpF l c l.length, [l.length]) := by
  have h := run_dp l c hl hc l.length (Nat.le_refl _) (16 * (dpN l c).length) (by rw [dpN_len]; omega) (.top (4 * l.length)) (.inr (by rw [show 3 * l.length + l.length = 4 * l.length by omega]))
  unfold expand runTops
  rw [h]
  rfl
/-! ### resolved -/
/-- The rows about the form k: of the levels outside it, the innermost first. -/
def dpR (l : List Nat) (k : Nat) : Rws := ((l.take (l.length - k)).reverse).map fun x => [nmB x]
def dpr (l : List Nat) (t : Nat) : Rf := ⟨6, (12 * (l.length - 1 - t) : Nat), 1, 0, emp, 0, [t]⟩
def dpO (l : List Nat) (x : Rf) (k : Nat) : List Rf := x :: (List.range k).map (dpr l)
theorem dpO_len (l : List Nat) (x : Rf) (k : Nat) : (dpO l x k).length = k + 1 := by simp [dpO]
theorem dpO_succ (l : List Nat) (x : Rf) (k : Nat) : dpO l x (k + 1) = dpO l x k ++ [dpr l k] := by simp [dpO, List.range_succ]
theorem own_dp (l : List Nat) (c k : Nat) : ownN (dpF l c k) = [] := by
  unfold ownN dpF
  rw [List.map_eq_nil_iff, List.filter_eq_nil_iff]
  intro f hf
  rcases List.mem_cons.1 hf with rfl | hf
  · simp
  · obtain ⟨t, _, rfl⟩ := List.mem_map.1 hf
    simp [dpf]
theorem fm_name (l : List Nat) (c n : Nat) : fmAt (dpF l c n) 0 = ⟨4, (12 * l.length : Nat), 0, nmB c, [], []⟩ := rfl
theorem fm_fn (l : List Nat) (c n k : Nat) (h : k < n) : fmAt (dpF l c n) (k + 1) = dpf l k := by
  unfold fmAt dpF
  rw [List.getD_cons_succ, List.getD_eq_getElem?_getD, List.getElem?_map, List.getElem?_range h]
  rfl
theorem prim_no (c : Nat) (hc : c < 4) : isPrim (nmB c) = false := by
  rcases c with _ | _ | _ | _ | c
  · decide +kernel
  · decide +kernel
  · decide +kernel
  · decide +kernel
  · omega
def dpOut (l : List Nat) (c k : Nat) : Out := match wher (dpR l 0) (nmB c) with
  | some (a, n) => .ok ([], dpO l ⟨11, (12 * l.length : Nat), n, a, emp, 0, []⟩ k, k)
  | none => .error ((12 * l.length : Nat), 91, [])
theorem ex_dp (l : List Nat) (c : Nat) (ns : List Nd) (hc : c < 4) : ∀ k, k ≤ l.length → ∀ f, k < f → ex (cx ns (dpF l c l.length)) f (dpR l k) (.form k) [] [] = dpOut l c k := by
  intro k
  induction k with
  | zero =>
    intro _ f hf
    obtain ⟨f, rfl⟩ : ∃ g, f = g + 1 := ⟨f - 1, by omega⟩
    have e : evS (cx ns (dpF l c l.length)) (dpR l 0) [] (.form 0) = nameP (cx ns (dpF l c l.length)) (dpR l 0) [] ⟨4, (12 * l.length : Nat), 0, nmB c, [], []⟩ := rfl
    rw [ex, e]
    unfold nameP dpOut
    simp only
    cases wher (dpR l 0) (nmB c) with
    | some x => rfl
    | none =>
      simp only
      rw [show (cx ns (dpF l c l.length)).own = [] from own_dp l c l.length, if_neg (by simp)]
      simp [onS, noName, prim_no c hc]
  | succ k ih =>
    intro hk f hf
    obtain ⟨f, rfl⟩ : ∃ g, f = g + 1 := ⟨f - 1, by omega⟩
    have e : evS (cx ns (dpF l c l.length)) (dpR l (k + 1)) [] (.form (k + 1)) = (.mk ⟨6, (12 * (l.length - 1 - k) : Nat), 1, 0, emp, 0, []⟩ (dpR l k) [.form k], []) := by
      show evF _ _ _ (fmAt (dpF l c l.length) (k + 1)) = _
      rw [fm_fn l c _ k (by omega)]
      have eR : dpR l k = [nmB (l.getD (l.length - 1 - k) 0)] :: dpR l (k + 1) := by
        unfold dpR
        rw [show l.length - k = l.length - 1 - k + 1 by omega, show l.length - (k + 1) = l.length - 1 - k by omega, List.take_add_one, List.getD_eq_getElem?_getD]
        have hi : l.length - 1 - k < l.length := by omega
        rw [List.getElem?_eq_getElem hi, Option.toList_some, List.reverse_append]
        rfl
      rw [eR]
      rfl
    have h1 := ih (by omega) f (by omega)
    rw [ex, e]
    unfold dpOut at h1 ⊢
    simp only [onS, execs]
    rw [h1]
    cases wher (dpR l 0) (nmB c) with
    | none => rfl
    | some x =>
      simp only [dpO_len, List.nil_append]
      rw [dpO_succ]
      rfl
/-- What is asked for: how many rows out, innermost first. -/
def wantO (c : Nat) : List Nat → Option Nat
  | [] => none
  | x :: l => if x = c then some 0 else (wantO c l).map (· + 1)
theorem nm_inj (c x : Nat) (hc : c < 4) (hx : x < 4) (h : nmB x = nmB c) : x = c := by
  have : ∀ c, c < 4 → ∀ x, x < 4 → nmB x = nmB c → x = c := by decide +kernel
  exact this c hc x hx h
theorem wher_dp (c : Nat) (hc : c < 4) : ∀ (l : List Nat), (∀ x ∈ l, x < 4) → wher (l.map fun x => [nmB x]) (nmB c) = (wantO c l).map fun a => (a, 0) := by
  intro l
  induction l with
  | nil => intro _; rfl
  | cons x l ih =>
    intro h
    have hx := h x (List.mem_cons_self ..)
    rw [List.map_cons, wher, ih (fun y hy => h y (List.mem_cons_of_mem _ hy)), wantO]
    by_cases e : x = c
    · subst e
      rw [if_pos (by simp), if_pos rfl]
      simp
    · rw [if_neg (fun hm => e (nm_inj c x hc hx (List.mem_singleton.1 hm).symm)), if_neg e]
      cases wantO c l <;> rfl
theorem fsz_dp (l : List Nat) (c : Nat) (ns : List Nd) : ∀ k, k ≤ l.length → ∀ f, k < f → k < fsz (cx ns (dpF l c l.length)) f k := by
  intro k
  induction k with
  | zero =>
    intro _ f hf
    obtain ⟨f, rfl⟩ : ∃ g, f = g + 1 := ⟨f - 1, by omega⟩
    unfold fsz
    omega
  | succ k ih =>
    intro hk f hf
    obtain ⟨f, rfl⟩ : ∃ g, f = g + 1 := ⟨f - 1, by omega⟩
    have h1 := ih (by omega) f (by omega)
    have e : (fmAt (cx ns (dpF l c l.length)).fs (k + 1)).l = [k] := by
      show (fmAt (dpF l c l.length) (k + 1)).l = [k]
      rw [fm_fn l c _ k (by omega)]; rfl
    unfold fsz
    rw [e]
    simp only [List.map_cons, List.map_nil, List.sum_cons, List.sum_nil]
    omega
theorem ofS_dp (l : List Nat) (c : Nat) (hl : ∀ c ∈ l, c < 4) (hc : c < 4) (hn : l.length ≤ 40) : ofS (dpS l c) = match wantO c l.reverse with
    | some a => .ok ([], dpO l ⟨11, (12 * l.length : Nat), (0 : Nat), (a : Nat), emp, 0, []⟩ l.length, [l.length])
    | none => .error ((12 * l.length : Nat), 91, []) := by
  have hR := read_dpS l c hl hc hn
  have hE := expand_dp l c hl hc
  have e : ofS (dpS l c) = tops (cx (dpN l c) (dpF l c l.length)) [l.length] [] [] [] := by
    unfold ofS
    rw [hR]
    simp only
    rw [hE]
    rfl
  rw [e]
  have hx : sx (cx (dpN l c) (dpF l c l.length)) (dpR l l.length) (.form l.length) [] [] = dpOut l c l.length :=
    ex_dp l c (dpN l c) hc l.length (Nat.le_refl _) (wgt (cx (dpN l c) (dpF l c l.length)) (.form l.length)) (fsz_dp l c (dpN l c) l.length (Nat.le_refl _) _ (by omega))
  have eR : dpR l l.length = [] := by simp [dpR]
  rw [eR] at hx
  simp only [tops, hx]
  unfold dpOut
  have eW : wher (dpR l 0) (nmB c) = (wantO c l.reverse).map fun a => (a, 0) := by
    unfold dpR
    rw [Nat.sub_zero, List.take_length]
    exact wher_dp c hc l.reverse (fun x hx => hl x (List.mem_reverse.1 hx))
  rw [eW]
  cases wantO c l.reverse <;> rfl
end SC
end Go.Proofs.YtedbaegdmianaaaDoor
