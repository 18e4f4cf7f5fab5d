/-
  P6.1, P6.2, P6.4: what is read is one of data, and each datum but those by themselves is in one list. No condition.
-/
import Derived.Test.YtpbfgfadickgbaaReadMays
import Derived.IntWalk
namespace Go.Proofs.Ytpbfgfadickgbaa
open Go.RowKit
set_option linter.unusedVariables false
namespace RX
open LX
theorem tokens_errin2 : ∀ (ts : List Tk) (r : Rd) (q z : Int), tokens ts r = .error (q, z) → ∃ t ∈ ts, t.at_ = q := by
  intro ts
  induction ts with
  | nil => intro r q z h; cases h
  | cons t ts ih =>
    intro r q z h
    simp only [tokens] at h
    cases hk : token r t with
    | error y => rw [hk] at h; injection h with h; injection h with h1 h2; exact ⟨t, List.mem_cons_self .., h1⟩
    | ok r1 =>
      rw [hk] at h
      obtain ⟨u, hu, e⟩ := ih _ _ _ h
      exact ⟨u, List.mem_cons_of_mem _ hu, e⟩
theorem lexL_errpos2 : ∀ (n : Nat) (l : List UInt8) (p : Nat) (out : List Tk) (q : Nat) (e : Int), l.length ≤ n → lexL l p out = .error (q, e) → q ≤ p + l.length := by
  intro n
  induction n with
  | zero =>
    intro l p out q e h hl
    have : l = [] := List.eq_nil_of_length_eq_zero (by omega)
    subst this
    cases hl
  | succ n ih =>
    intro l p out q e h hl
    cases l with
    | nil => cases hl
    | cons c r =>
      rw [lexL_step] at hl
      simp only [List.length_cons] at h ⊢
      cases hs : LX.step (c :: r) with
      | err e => rw [hs] at hl; cases hl; omega
      | skip k =>
        obtain ⟨h1, h2⟩ := adv_le hs (by intro e he; cases he)
        simp only [adv] at h1 h2
        rw [hs] at hl
        have := ih _ _ _ _ _ (by rw [List.length_drop, List.length_cons]; omega) hl
        rw [List.length_drop, List.length_cons] at this; omega
      | tok kd n s k =>
        obtain ⟨h1, h2⟩ := adv_le hs (by intro e he; cases he)
        simp only [adv] at h1 h2
        rw [hs] at hl
        have := ih _ _ _ _ _ (by rw [List.length_drop, List.length_cons]; omega) hl
        rw [List.length_drop, List.length_cons] at this; omega
theorem read_errpos2 {s : ByteArray} {q x : Int} (h : read s = .error (q, x)) : 0 ≤ q ∧ q ≤ s.size := by
  cases hL : lex s with
  | error e =>
    obtain ⟨p, z⟩ := e
    unfold read at h
    rw [hL] at h
    injection h with h
    injection h with h1 h2
    have : p ≤ s.size := by
      unfold lex at hL
      split at hL
      · cases hL; omega
      · have := lexL_errpos2 _ _ _ _ _ _ (Nat.le_refl _) hL
        rw [size_bts] at this; omega
    omega
  | ok ts =>
    rw [read_fin hL] at h
    cases hT : tokens ts ⟨[], [], []⟩ with
    | error e =>
      obtain ⟨p, z⟩ := e
      rw [hT] at h
      injection h with h
      injection h with h1 h2
      obtain ⟨t, ht, e⟩ := tokens_errin2 ts _ _ _ hT
      have hi := (lex_in_s hL).1 t ht
      have := hi.lt
      have := hi.pos
      omega
    | ok r =>
      rw [hT] at h
      have hI := (tokens_inv (P := fun x => x.at_ < s.size) (Q := fun p => p.at_ < s.size) (fun _ _ _ _ h => h) (fun _ h _ => h) ts (r := ⟨[], [], []⟩) (inv_start _ _) (fun _ => .inl rfl) (brings _ _ hL (fun _ hi _ _ => hi.lt) (fun _ hi _ => hi.lt) (fun _ hi _ => hi.lt) (fun _ hi _ _ _ => hi.lt) (fun _ hi _ => ⟨fun _ _ => hi.lt, hi.lt⟩)) hT).1
      simp only [fin] at h
      unfold endE at h
      split at h
      · cases h
      · rename_i p ps hop
        obtain ⟨h1, h2⟩ := hI.open_ p (by rw [hop]; exact List.mem_cons_self ..)
        split at h <;> (injection h with h; injection h with h3 h4; omega)
end RX
namespace RW6
open LX RX RM6
/-- The row at ib counts: f of each place. -/
def CntR (w2 : World) (ib n : Nat) (f : Nat → Nat) (wr : World) : Prop :=
  ∃ cs : List Nat, MM.Row wr ib 3 (ints cs) ∧ cs.length = n ∧ (∀ a, a < n → cs[a]? = some (f a)) ∧ MM.Far [] w2 wr
theorem CntR.at {w2 wr : World} {ib n : Nat} {f : Nat → Nat} (h : CntR w2 ib n f wr) {p : Nat} (hp : p < n) : wr.cell? ⟨ib, p, none⟩ = some (.int .i64 ((f p : Nat) : Int)) ∧ wr.frozen? ⟨ib, p, none⟩ = false := by
  obtain ⟨cs, hB, hl, hf, _⟩ := h
  refine ⟨hB.at ?_, hB.frozen p⟩
  unfold ints
  rw [List.getElem?_map, hf p hp]
  rfl
theorem CntR.inc {w2 wr : World} {ib n : Nat} {f g : Nat → Nat} (h : CntR w2 ib n f wr) {p : Nat} (hp : p < n) (hib : w2.heap.size ≤ ib) (hg : ∀ a, a < n → g a = f a + if a = p then 1 else 0) (z : Int) (hz : z = ((f p + 1 : Nat) : Int)) : CntR w2 ib n g (wr.setCell ⟨ib, p, none⟩ (.int .i64 z)) := by
  subst hz
  obtain ⟨cs, hB, hl, hf, hF⟩ := h
  refine ⟨cs.set p (f p + 1), ?_, by rw [List.length_set]; exact hl, fun a ha => ?_, hF.setCell (fun hlt => by simp only at hlt; omega) _⟩
  · have := hB.put p (.int .i64 ((f p + 1 : Nat) : Int))
    have e : (ints cs).set p (.int .i64 ((f p + 1 : Nat) : Int)) = ints (cs.set p (f p + 1)) := by unfold ints; rw [List.map_set]
    rw [e] at this
    exact this
  · by_cases e : p = a
    · subst e
      rw [List.getElem?_set_self (by omega), hg p hp, if_pos rfl]
    · rw [List.getElem?_set_ne e, hf a ha, hg a ha, if_neg (fun h => e h.symm)]
      simp
theorem CntR.to {w2 wr w' : World} {ib n : Nat} {f : Nat → Nat} (h : CntR w2 ib n f wr) (F : MM.Far [] wr w') : CntR w2 ib n f w' := by
  obtain ⟨cs, hB, hl, hf, hF⟩ := h
  exact ⟨cs, hB.far F (by simp), hl, hf, hF.trans F (by simp)⟩
theorem CntR.eq {w2 wr : World} {ib n : Nat} {f g : Nat → Nat} (h : CntR w2 ib n f wr) (e : ∀ a, a < n → f a = g a) : CntR w2 ib n g wr := by
  obtain ⟨cs, hB, hl, hf, hF⟩ := h
  exact ⟨cs, hB, hl, fun a ha => by rw [hf a ha, e a ha], hF⟩
theorem CntR.far {w2 wr : World} {ib n : Nat} {f : Nat → Nat} (h : CntR w2 ib n f wr) : MM.Far [] w2 wr := by
  obtain ⟨cs, hB, hl, hf, hF⟩ := h
  exact hF
theorem cnt_one (p a : Nat) : [p].count a = if a = p then 1 else 0 := by
  by_cases e : a = p
  · subst e; simp
  · rw [if_neg e, List.count_eq_zero_of_not_mem (by simpa using e)]
/-- The last of the first j. -/
def lastT (tops : List Nat) (j : Nat) : Int := match (tops.take j).getLast? with
  | none => -1
  | some p => (p : Int)
theorem lastT_succ {tops : List Nat} {j : Nat} (h : j < tops.length) : lastT tops (j + 1) = (tops[j] : Int) := by
  unfold lastT
  rw [List.take_succ_eq_append_getElem h, List.getLast?_append]
  simp
theorem lastT_lt {tops : List Nat} {j : Nat} (hp : tops.Pairwise (· < ·)) (h : j < tops.length) : lastT tops j < (tops[j] : Int) := by
  unfold lastT
  cases hg : (tops.take j).getLast? with
  | none => simp only []; omega
  | some p =>
    simp only []
    have hm : p ∈ tops.take j := List.mem_of_getLast? hg
    have h2 : (tops.take (j + 1)).Pairwise (· < ·) := hp.sublist (List.take_sublist _ _)
    rw [List.take_succ_eq_append_getElem h, List.pairwise_append] at h2
    have := h2.2.2 p hm tops[j] (by simp)
    omega
end RW6
end Go.Proofs.Ytpbfgfadickgbaa
