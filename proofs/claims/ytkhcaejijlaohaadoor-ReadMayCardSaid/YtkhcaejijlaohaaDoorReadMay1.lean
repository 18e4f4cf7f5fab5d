/-
  Whether a row is one of data, in plain words; contract of the code's part for a datum by itself. No condition but sizes.
-/
import Derived.Test.YtkhcaejijlaohaaDoorReadLaws1
namespace Go.Proofs.YtkhcaejijlaohaaDoor
open Go.RowKit
namespace RX
open LX
/-- A datum with any places. -/
structure Ni where
  kind : Int
  at_ : Int
  n : Int
  s : ByteArray
  l : List Int
/-- By itself, but for what its list has: len of them. -/
def okF (kd at_ n : Int) (s : ByteArray) (len : Nat) : Bool :=
  if at_ < 0 then false
  else if kd = 1 then decide (s.size = 0) && decide (len = 0)
  else if kd = 2 then decide (n = 0 ∨ n = 1) && decide (s.size = 0) && decide (len = 0)
  else if kd = 3 then decide (n = 0) && decide (len = 0)
  else if kd = 4 then decide (n = 0) && decide (s.size = 0)
  else false
/-- The places of a list are taken, if they are there and free. -/
def takeL (i : Nat) : List Int → List Bool → Option (List Bool)
  | [], tk => some tk
  | p :: l, tk => if p < 0 ∨ (i : Int) ≤ p then none else if tk.getD p.toNat false = true then none else takeL i l (tk.set p.toNat true)
def mayG : List Ni → Nat → List Bool → Bool
  | [], _, _ => true
  | x :: xs, i, tk => if okF x.kind x.at_ x.n x.s x.l.length = false then false else match takeL i x.l tk with
    | none => false
    | some tk => mayG xs (i + 1) tk
def may (xs : List Ni) : Bool := mayG xs 0 (List.replicate xs.length false)
theorem takeL_len : ∀ (l : List Int) (i : Nat) (tk tk' : List Bool), takeL i l tk = some tk' → tk'.length = tk.length := by
  intro l
  induction l with
  | nil => intro i tk tk' h; simp [takeL] at h; rw [h]
  | cons p l ih =>
    intro i tk tk' h
    unfold takeL at h
    split at h
    · cases h
    · split at h
      · cases h
      · rw [ih _ _ _ h, List.length_set]
def toI (x : Nd) : Ni := ⟨x.kind, x.at_, x.n, x.s, x.l.map (fun p : Nat => (p : Int))⟩
/-- What is taken is free and there. -/
theorem takeL_ok : ∀ (l : List Nat) (i : Nat) (tk : List Bool), i ≤ tk.length → (∀ p ∈ l, p < i) → (∀ p ∈ l, tk.getD p false = false) → l.Nodup → ∃ tk', takeL i (l.map (fun p : Nat => (p : Int))) tk = some tk' ∧ (∀ a, tk'.getD a false = true → tk.getD a false = true ∨ a ∈ l) := by
  intro l
  induction l with
  | nil => intro i tk _ _ _ _; exact ⟨tk, rfl, fun a h => .inl h⟩
  | cons p l ih =>
    intro i tk hi hlt hfree hnd
    have hp := hlt p (List.mem_cons_self ..)
    have hn := List.nodup_cons.1 hnd
    rw [List.map_cons]
    unfold takeL
    rw [if_neg (by omega)]
    have hf := hfree p (List.mem_cons_self ..)
    rw [Int.toNat_natCast, if_neg (by rw [hf]; simp)]
    obtain ⟨tk', h1, h2⟩ := ih i (tk.set p true) (by rw [List.length_set]; exact hi) (fun q hq => hlt q (List.mem_cons_of_mem _ hq)) (fun q hq => by
      have hne : p ≠ q := fun e => hn.1 (e ▸ hq)
      rw [List.getD_eq_getElem?_getD, List.getElem?_set_ne hne, ← List.getD_eq_getElem?_getD]
      exact hfree q (List.mem_cons_of_mem _ hq)) hn.2
    refine ⟨tk', h1, fun a ha => ?_⟩
    rcases h2 a ha with h | h
    · by_cases e : p = a
      · subst e; exact .inr (List.mem_cons_self ..)
      · rw [List.getD_eq_getElem?_getD, List.getElem?_set_ne e, ← List.getD_eq_getElem?_getD] at h
        exact .inl h
    · exact .inr (List.mem_cons_of_mem _ h)
theorem mayG_ok : ∀ (xs : List Nd) (i : Nat) (tk : List Bool), i + xs.length ≤ tk.length → (∀ (k : Nat) (h : k < xs.length), ∀ p ∈ xs[k].l, p < i + k) → (∀ x ∈ xs, GoodN x) → (∀ a, tk.getD a false = true → (xs.flatMap (·.l)).count a = 0) →
    (∀ a, (xs.flatMap (·.l)).count a ≤ 1) → mayG (xs.map toI) i tk = true := by
  intro xs
  induction xs with
  | nil => intro i tk _ _ _ _ _; rfl
  | cons x xs ih =>
    intro i tk hlen hb hg hf h1
    rw [List.map_cons]
    unfold mayG
    have hgx := hg x (List.mem_cons_self ..)
    have hok : okF (toI x).kind (toI x).at_ (toI x).n (toI x).s (toI x).l.length = true := by
      obtain ⟨h0, hc⟩ := hgx
      unfold okF toI
      simp only [List.length_map]
      rw [if_neg (by omega)]
      rcases hc with ⟨e1, e2, e3⟩ | ⟨e1, e2, e3, e4⟩ | ⟨e1, e2, e3⟩ | ⟨e1, e2, e3⟩
      · simp [e1, e2, e3]; rfl
      · simp [e1, e2, e3, e4]; rfl
      · simp [e1, e2, e3]
      · simp [e1, e2, e3]; rfl
    rw [if_neg (by rw [hok]; simp)]
    have hcx : ∀ a, x.l.count a ≤ 1 := fun a => by
      have := h1 a
      rw [List.flatMap_cons, List.count_append] at this
      omega
    have hnd : x.l.Nodup := List.nodup_iff_count.2 hcx
    obtain ⟨tk', e, h2⟩ := takeL_ok x.l i tk (by simp at hlen; omega) (fun p hp => by have := hb 0 (by simp) p hp; simpa using this) (fun p hp => by
      cases hc : tk.getD p false with
      | false => rfl
      | true =>
        have := hf p hc
        rw [List.flatMap_cons, List.count_append] at this
        have := List.count_pos_iff.2 hp
        omega) hnd
    have e' : takeL i (toI x).l tk = some tk' := e
    rw [e']
    simp only []
    refine ih (i + 1) tk' (by rw [takeL_len _ _ _ _ e]; simp only [List.length_cons] at hlen; omega) (fun k hk p hp => ?_) (fun y hy => hg y (List.mem_cons_of_mem _ hy)) (fun a ha => ?_) (fun a => ?_)
    · have := hb (k + 1) (by simpa using hk) p (by simpa using hp)
      omega
    · have h1a := h1 a
      rw [List.flatMap_cons, List.count_append] at h1a
      rcases h2 a ha with h | h
      · have := hf a h
        rw [List.flatMap_cons, List.count_append] at this
        omega
      · have := List.count_pos_iff.2 h
        omega
    · have := h1 a
      rw [List.flatMap_cons, List.count_append] at this
      omega
theorem read_may {s : ByteArray} {r : Rd} (h : read s = .ok r) : may (r.row.map toI) = true := by
  have hI := (read_plain h).1
  unfold may
  refine mayG_ok r.row 0 _ (by simp) (fun k hk p hp => by have := hI.below k hk p hp; omega) (fun x hx => (hI.good x hx).1) (fun a ha => ?_) (fun a => ?_)
  · rw [List.getD_eq_getElem?_getD, List.getElem?_replicate] at ha
    split at ha <;> simp at ha
  · have := hI.one a
    unfold cnt at this
    split at this <;> omega
end RX
namespace RW6
open LX RX RM6
theorem size_zero {s : ByteArray} (h : s.size = 0) : s = ⟨#[]⟩ := by
  apply ByteArray.ext
  apply Array.toList_inj.1
  exact List.eq_nil_of_length_eq_zero (by rw [Array.length_toList]; exact h)
theorem toList_ne {s : ByteArray} (h : s.size ≠ 0) : ¬ s.toList = [] := by
  rw [Lib.toList_data]
  intro e
  have := congrArg List.length e
  rw [Array.length_toList] at this
  exact h this
set_option maxHeartbeats 2000000 in
set_option maxRecDepth 20000 in
theorem has_any (kd at_ n : Int) (s : ByteArray) (LA : Option Addr) (len c : Nat) (hl : len ≤ 100000) (w : World) :
    Calls Tryd.prog 23 #[.agg #[.int .u8 kd, .int .i64 at_, .int .i64 n, .string s, .slice LA len c]] w fun e w' => e = .returned (.bool (okF kd at_ n s len)) ∧ MM.Far [] w w' := by
  by_cases h0 : at_ < 0
  · have HE := Lib.hid (show okF kd at_ n s len = false by unfold okF; rw [if_pos h0])
    rw [HE.out]
    clear HE
    go_enter Tryd.func23, Tryd.ntmps23
    go_wp2
    go_ret
    exact ⟨rfl, (MM.Far.refl [] w).alloc _⟩
  · obtain ⟨b, hb⟩ : ∃ b, okF kd at_ n s len = b := ⟨_, rfl⟩
    rw [hb]
    have H0 := Lib.hid h0
    have HL := Lib.hid hl
    rcases (show (kd = 1 ∨ kd = 2 ∨ kd = 3 ∨ kd = 4 ∨ (kd ≠ 1 ∧ kd ≠ 2 ∧ kd ≠ 3 ∧ kd ≠ 4)) by omega) with rfl | rfl | rfl | rfl | ⟨k1, k2, k3, k4⟩
    case' inr.inr.inr.inr =>
      have d1 : (kd == 1) = false := by rw [beq_eq_false_iff_ne]; exact k1
      have d2 : (kd == 2) = false := by rw [beq_eq_false_iff_ne]; exact k2
      have d3 : (kd == 3) = false := by rw [beq_eq_false_iff_ne]; exact k3
      have d4 : (kd == 4) = false := by rw [beq_eq_false_iff_ne]; exact k4
    all_goals
      rcases (show (s.size = 0 ∨ s.size ≠ 0) by omega) with hs | hs
      case' inl =>
        have HS := Lib.hid hs
        obtain rfl := size_zero hs
        clear hs
      case' inr =>
        have HS := Lib.hid hs
        have e1 := toList_ne hs
        have e2 : (s.toList == []) = false := by rw [beq_eq_false_iff_ne]; exact e1
        clear hs
      all_goals
        rcases (show (len = 0 ∨ len ≠ 0) by omega) with hn | hn
        case' inl =>
          have HN := Lib.hid hn
          subst hn
        case' inr =>
          have HN := Lib.hid hn
          have e3 : ((len : Int) == 0) = false := by rw [beq_eq_false_iff_ne]; omega
          clear hn
        all_goals
          rcases (show (n = 0 ∨ n = 1 ∨ (n ≠ 0 ∧ n ≠ 1)) by omega) with rfl | rfl | ⟨m1, m2⟩
          case' inr.inr =>
            have e4 : (n == 0) = false := by rw [beq_eq_false_iff_ne]; exact m1
            have e5 : (n == 1) = false := by rw [beq_eq_false_iff_ne]; exact m2
          all_goals
            have HE := Lib.hid hb
            clear hb
            go_enter Tryd.func23, Tryd.ntmps23
            go_wp2
            go_ret
            refine ⟨?_, (MM.Far.refl [] w).alloc _⟩
            rw [← HE.out]
            have g0 := H0.out
            have gs := HS.out
            have gn := HN.out
            simp [okF, *]
end RW6
end Go.Proofs.YtkhcaejijlaohaaDoor
