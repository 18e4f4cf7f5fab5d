/-
  P6.2's law of quotes in plain words: texts joined by a blank; quotes and the lists that they stand for. No condition but sizes.
-/
import Derived.Test.YtaghlpolljaedaaGreatReadShift
namespace Go.Proofs.YtaghlpolljaedaaGreat
namespace LX
/-- A blank between two texts, the first without a note. -/
theorem lexL_sp (b : List UInt8) : ∀ (n : Nat) (a : List UInt8) (p : Nat) (out : List Tk), a.length ≤ n → (∀ c ∈ a, c ≠ 59) →
    lexL (a ++ 32 :: b) p out = match lexL a p out with | .error e => .error e | .ok ts => lexL b (p + a.length + 1) ts := by
  intro n
  induction n with
  | zero =>
    intro a p out h _
    have : a = [] := List.eq_nil_of_length_eq_zero (by omega)
    subst this
    rw [List.nil_append, lexL_blank, lexL_nil]
    simp
  | succ n ih =>
    intro a p out h h59
    cases a with
    | nil =>
      rw [List.nil_append, lexL_blank, lexL_nil]
      simp
    | cons c r =>
      have hd : ∀ k, ∀ x ∈ (c :: r).drop k, x ≠ 59 := fun k x hx => h59 x (List.mem_of_mem_drop hx)
      rw [List.cons_append, lexL_step, lexL_step, ← List.cons_append, step_app (by decide) (.inl (h59 c (List.mem_cons_self ..)))]
      simp only [List.length_cons] at h
      cases hs : step (c :: r) with
      | err e => rfl
      | skip k =>
        obtain ⟨h1, h2⟩ := adv_le hs (by intro e he; cases he)
        simp only [adv] at h1 h2
        simp only
        rw [List.drop_append_of_le_length (by simpa using h2), ih _ _ _ (by rw [List.length_drop, List.length_cons]; omega) (hd k)]
        rw [List.length_drop, List.length_cons, show p + k + (r.length + 1 - k) = p + (r.length + 1) from by omega]
      | tok kd n s k =>
        obtain ⟨h1, h2⟩ := adv_le hs (by intro e he; cases he)
        simp only [adv] at h1 h2
        simp only
        rw [List.drop_append_of_le_length (by simpa using h2), ih _ _ _ (by rw [List.length_drop, List.length_cons]; omega) (hd k)]
        rw [List.length_drop, List.length_cons, show p + k + (r.length + 1 - k) = p + (r.length + 1) from by omega]
end LX
namespace RX
open LX
theorem lex_sp (a b y : ByteArray) (ha : a.size ≤ 1500) (hb : b.size ≤ 1500) (h59 : ∀ c ∈ bts a, c ≠ 59) (hby : bts y = bts a ++ 32 :: bts b) :
    ∀ ta, lex a = .ok ta → (∀ q e, lex b = .error (q, e) → lex y = .error (q + (a.size + 1), e)) ∧ ∀ tb, lex b = .ok tb → lex y = .ok (ta ++ tb.map (shiftT (a.size + 1))) := by
  have hys : y.size ≤ 4000 := by
    rw [← size_bts, hby, List.length_append, List.length_cons, size_bts, size_bts]; omega
  rw [lex_small (show a.size ≤ 4000 by omega), lex_small (show b.size ≤ 4000 by omega), lex_small hys, hby]
  rw [lexL_sp _ _ _ _ _ (Nat.le_refl _) h59]
  intro ta h
  rw [h]
  have hsh := lexL_shift (a.size + 1) ta _ (bts b) 0 [] (Nat.le_refl _)
  rw [List.map_nil, List.append_nil] at hsh
  have e0 : 0 + (bts a).length + 1 = 0 + (a.size + 1) := by rw [size_bts]; omega
  simp only [e0, hsh]
  exact ⟨fun q e h2 => by rw [h2], fun tb h2 => by rw [h2]⟩
theorem read_sp (a b y : ByteArray) (ha : a.size ≤ 1500) (hb : b.size ≤ 1500) (h59 : ∀ c ∈ bts a, c ≠ 59) (hby : bts y = bts a ++ 32 :: bts b) {ra : Rd} (h : read a = .ok ra) : read y = match read b with
    | .error (p, e) => .error (p + ((a.size + 1 : Nat) : Int), e)
    | .ok rb => .ok (shR (a.size + 1) ra.row ra.tops rb) := by
  obtain ⟨ta, h1, h2, h3⟩ := read_ok h
  obtain ⟨g1, g2⟩ := lex_sp a b y ha hb h59 hby ta h1
  cases hb2 : lex b with
  | error e =>
    obtain ⟨q, e⟩ := e
    have : read b = .error ((q : Int), e) := by unfold read; rw [hb2]
    rw [this]
    unfold read
    rw [g1 q e hb2]
    simp only []
    rw [Int.natCast_add]
  | ok tb =>
    rw [read_fin hb2, read_fin (g2 tb hb2), tokens_app, h2]
    simp only []
    have e : ra = shR (a.size + 1) ra.row ra.tops ⟨[], [], []⟩ := by
      obtain ⟨x, y, z⟩ := ra
      simp only at h3
      subst h3
      simp [shR]
    conv => lhs; rw [e]
    rw [tokens_sh, fin_sh]
    cases fin (tokens tb ⟨[], [], []⟩) <;> rfl
/-- A datum but for where it stands. -/
def bare (x : Nd) : Nd := ⟨x.kind, 0, x.n, x.s, x.l⟩
theorem bare_sh (d m : Nat) (x : Nd) : bare (shN d m x) = shN 0 m (bare x) := rfl
/-- Both have the same data, but for where they stand. -/
def Alike (a b : Rd) : Prop := a.row.map bare = b.row.map bare ∧ a.tops = b.tops
theorem Alike.sh {a b c d : Rd} (h : Alike a b) (k : Alike c d) (m n : Nat) : Alike (shR m a.row a.tops c) (shR n b.row b.tops d) := by
  obtain ⟨h1, h2⟩ := h
  obtain ⟨k1, k2⟩ := k
  have hl : a.row.length = b.row.length := by have := congrArg List.length h1; simpa using this
  refine ⟨?_, ?_⟩
  · simp only [shR, List.map_append, List.map_map, h1, hl]
    have e : ∀ (j i : Nat) (l : List Nd), l.map (bare ∘ shN j i) = (l.map bare).map (shN 0 i) := by
      intro j i l
      rw [List.map_map]
      rfl
    rw [e, e, k1]
  · simp only [shR, h2, hl, k2]
def qd : Nat → ByteArray
  | 0 => ⟨#[55]⟩
  | 1 => ⟨#[120]⟩
  | 2 => ⟨#[40, 41]⟩
  | _ => ⟨#[40, 97, 32, 98, 41]⟩
/-- A datum behind so many quotes; and the same as lists. -/
def qs (d : Nat) : Nat → ByteArray
  | 0 => qd d
  | k + 1 => ⟨#[39]⟩ ++ qs d k
def ql (d : Nat) : Nat → ByteArray
  | 0 => qd d
  | k + 1 => ⟨#[40, 113, 117, 111, 116, 101, 32]⟩ ++ ql d k ++ ⟨#[41]⟩
/-- The text so far. -/
def qA (f : Nat → Nat → ByteArray) (s : ByteArray) : List Nat → ByteArray
  | [] => s
  | z :: zs => qA f (s ++ f (z % 4) (z / 4 % 4) ++ ⟨#[32]⟩) zs
theorem qA_snoc (f : Nat → Nat → ByteArray) (z : Nat) : ∀ (zs : List Nat) (s : ByteArray), qA f s (zs ++ [z]) = qA f s zs ++ f (z % 4) (z / 4 % 4) ++ ⟨#[32]⟩ := by
  intro zs
  induction zs with
  | nil => intro s; rfl
  | cons x xs ih => intro s; exact ih _
def qL (f : Nat → Nat → ByteArray) (zs : List Nat) : List UInt8 := zs.flatMap fun z => bts (f (z % 4) (z / 4 % 4)) ++ [32]
theorem qA_bts (f : Nat → Nat → ByteArray) : ∀ (zs : List Nat) (s : ByteArray), bts (qA f s zs) = bts s ++ qL f zs := by
  intro zs
  induction zs with
  | nil => intro s; simp [qA, qL]
  | cons z zs ih =>
    intro s
    have e : bts (⟨#[32]⟩ : ByteArray) = [32] := rfl
    unfold qA
    rw [ih, bts_append, bts_append, e]
    simp only [qL, List.flatMap_cons, List.append_assoc]
theorem lt4 (n : Nat) : n % 4 = 0 ∨ n % 4 = 1 ∨ n % 4 = 2 ∨ n % 4 = 3 := by omega
def rdOf (s : ByteArray) : Rd := match read s with
  | .ok r => r
  | .error _ => ⟨[], [], []⟩
theorem piece (z : Nat) : ∃ ra rb, read (qs (z % 4) (z / 4 % 4)) = .ok ra ∧ read (ql (z % 4) (z / 4 % 4)) = .ok rb ∧ Alike ra rb := by
  refine ⟨rdOf (qs (z % 4) (z / 4 % 4)), rdOf (ql (z % 4) (z / 4 % 4)), ?_⟩
  rcases lt4 z with h | h | h | h <;> rcases lt4 (z / 4) with k | k | k | k <;> rw [h, k] <;>
    exact ⟨by kernel_rfl, by kernel_rfl, by kernel_rfl, by kernel_rfl⟩
theorem piece_size (z : Nat) : (qs (z % 4) (z / 4 % 4)).size ≤ 8 ∧ (ql (z % 4) (z / 4 % 4)).size ≤ 29 ∧ (∀ c ∈ bts (qs (z % 4) (z / 4 % 4)), c ≠ 59) ∧ ∀ c ∈ bts (ql (z % 4) (z / 4 % 4)), c ≠ 59 := by
  rcases lt4 z with h | h | h | h <;> rcases lt4 (z / 4) with k | k | k | k <;> rw [h, k] <;> decide
theorem qL_len (f : Nat → Nat → ByteArray) (hf : ∀ z, (f (z % 4) (z / 4 % 4)).size ≤ 29) : ∀ zs : List Nat, (qL f zs).length ≤ 30 * zs.length := by
  intro zs
  induction zs with
  | nil => simp [qL]
  | cons z zs ih =>
    have := hf z
    simp only [qL, List.flatMap_cons, List.length_append, List.length_cons, List.length_nil, size_bts] at ih ⊢
    omega
theorem qd_size (d : Nat) : (qd d).size ≤ 5 := by
  unfold qd; split <;> decide
theorem qs_size (d k : Nat) : (qs d k).size ≤ 5 + k := by
  induction k with
  | zero => exact qd_size d
  | succ k ih =>
    unfold qs
    rw [size_append]
    have : (⟨#[39]⟩ : ByteArray).size = 1 := rfl
    omega
theorem ql_size (d k : Nat) : (ql d k).size ≤ 5 + 8 * k := by
  induction k with
  | zero => exact qd_size d
  | succ k ih =>
    unfold ql
    rw [size_append, size_append]
    have h1 : (⟨#[40, 113, 117, 111, 116, 101, 32]⟩ : ByteArray).size = 7 := rfl
    have h2 : (⟨#[41]⟩ : ByteArray).size = 1 := rfl
    omega
theorem bts_mk (l : List UInt8) : bts (str l) = l := by unfold bts str; simp
/-- Both texts have the same data. -/
theorem quotes : ∀ zs : List Nat, zs.length ≤ 20 → ∃ ra rb, read (str (qL qs zs)) = .ok ra ∧ read (str (qL ql zs)) = .ok rb ∧ Alike ra rb := by
  intro zs
  induction zs with
  | nil => intro _; exact ⟨⟨[], [], []⟩, ⟨[], [], []⟩, by kernel_rfl, by kernel_rfl, rfl, rfl⟩
  | cons z zs ih =>
    intro hl
    simp only [List.length_cons] at hl
    obtain ⟨ra, rb, h1, h2, h3⟩ := ih (by omega)
    obtain ⟨pa, pb, g1, g2, g3⟩ := piece z
    obtain ⟨s1, s2, s3, s4⟩ := piece_size z
    have l1 := qL_len qs (fun z => by have := (piece_size z).1; omega) zs
    have l2 := qL_len ql (fun z => (piece_size z).2.1) zs
    have e1 : (str (qL qs zs)).size ≤ 600 := by rw [← size_bts, bts_mk]; omega
    have e2 : (str (qL ql zs)).size ≤ 600 := by rw [← size_bts, bts_mk]; omega
    have j1 := read_sp _ (str (qL qs zs)) (str (qL qs (z :: zs))) (by omega) (by omega) s3 (by rw [bts_mk, bts_mk]; simp [qL]) g1
    have j2 := read_sp _ (str (qL ql zs)) (str (qL ql (z :: zs))) (by omega) (by omega) s4 (by rw [bts_mk, bts_mk]; simp [qL]) g2
    rw [h1] at j1
    rw [h2] at j2
    exact ⟨_, _, j1, j2, g3.sh h3 _ _⟩
theorem str_bts (s : ByteArray) : str (bts s) = s := by unfold bts str; simp
theorem quotes_any (zs : List Nat) (hl : zs.length ≤ 20) : ∃ ra rb, read (qA qs ⟨#[]⟩ zs) = .ok ra ∧ read (qA ql ⟨#[]⟩ zs) = .ok rb ∧ Alike ra rb := by
  have e (f : Nat → Nat → ByteArray) : qA f ⟨#[]⟩ zs = str (qL f zs) := by
    rw [← str_bts (qA f ⟨#[]⟩ zs), qA_bts]; rfl
  rw [e, e]
  exact quotes zs hl
theorem qA_size (f : Nat → Nat → ByteArray) (hf : ∀ z, (f (z % 4) (z / 4 % 4)).size ≤ 29) (zs : List Nat) : (qA f ⟨#[]⟩ zs).size ≤ 30 * zs.length := by
  rw [← size_bts, qA_bts]
  exact qL_len f hf zs
end RX
end Go.Proofs.YtaghlpolljaedaaGreat
