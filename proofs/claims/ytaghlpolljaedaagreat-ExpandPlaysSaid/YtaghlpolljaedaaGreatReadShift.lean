/-
  P6.2 in plain words: texts one behind the other have the data of both. No condition but sizes.
-/
import Derived.Test.YtaghlpolljaedaaGreatReadMays
import Derived.Test.YtaghlpolljaedaaGreatLexMids
namespace Go.Proofs.YtaghlpolljaedaaGreat
namespace RX
open LX
/-- Data so much further on: in the text, and in the row. -/
def shN (d m : Nat) (x : Nd) : Nd := ⟨x.kind, x.at_ + d, x.n, x.s, x.l.map (· + m)⟩
def shP (d m : Nat) (p : Pt) : Pt := ⟨p.at_ + d, p.q, p.l.map (· + m)⟩
def shR (d : Nat) (row0 : List Nd) (tops0 : List Nat) (r : Rd) : Rd := ⟨row0 ++ r.row.map (shN d row0.length), tops0 ++ r.tops.map (· + row0.length), r.op.map (shP d row0.length)⟩
theorem putO_sh (d : Nat) (row0 : List Nd) (tops0 : List Nat) : ∀ (ps : List Pt) (row : List Nd) (tops : List Nat) (x : Nd),
    putO (ps.map (shP d row0.length)) (row0 ++ row.map (shN d row0.length)) (tops0 ++ tops.map (· + row0.length)) (shN d row0.length x) = shR d row0 tops0 (putO ps row tops x) := by
  intro ps
  induction ps with
  | nil =>
    intro row tops x
    simp [putO, shR]
    omega
  | cons p ps ih =>
    intro row tops x
    rw [List.map_cons]
    unfold putO
    have e1 : (shP d row0.length p).q = p.q := rfl
    have e2 : (shP d row0.length p).l.length = p.l.length := by simp [shP]
    rw [e1, e2]
    have e3 : (row0 ++ row.map (shN d row0.length)).length = row.length + row0.length := by simp; omega
    split
    · have := ih (row ++ [x]) tops ⟨4, p.at_, 0, emp, p.l ++ [row.length]⟩
      rw [← this]
      congr 1
      · simp
      · simp [shN, shP, e3]
    · simp [shR, shP]
      omega
theorem put_sh (d : Nat) (row0 : List Nd) (tops0 : List Nat) (r : Rd) (x y : Nd) (h : y = shN d row0.length x) : put (shR d row0 tops0 r) y = shR d row0 tops0 (put r x) := by
  subst h
  exact putO_sh d row0 tops0 r.op r.row r.tops x
theorem inQ_sh (d : Nat) (row0 : List Nd) (tops0 : List Nat) (r : Rd) : inQ (shR d row0 tops0 r) = inQ r := by
  unfold inQ shR
  cases r.op <;> rfl
theorem token_sh (d : Nat) (row0 : List Nd) (tops0 : List Nat) (r : Rd) (t : Tk) : token (shR d row0 tops0 r) (shiftT d t) = match token r t with
    | .error e => .error e
    | .ok r => .ok (shR d row0 tops0 r) := by
  have el : (shR d row0 tops0 r).op.length = r.op.length := by simp [shR]
  have ek : (shiftT d t).kind = t.kind := rfl
  unfold token
  rw [ek, el, inQ_sh]
  split
  · exact congrArg Except.ok (put_sh d row0 tops0 r ⟨1, t.at_, t.n, emp, []⟩ _ rfl)
  split
  · exact congrArg Except.ok (put_sh d row0 tops0 r ⟨2, t.at_, t.n, emp, []⟩ _ rfl)
  split
  · exact congrArg Except.ok (put_sh d row0 tops0 r ⟨3, t.at_, 0, t.s, []⟩ _ rfl)
  split
  · split
    · rfl
    · simp [shR, shP, shiftT]
  split
  · split
    · rfl
    · simp only []
      rw [← put_sh d row0 tops0 ⟨r.row, r.tops, ⟨t.at_, true, []⟩ :: r.op⟩ ⟨3, t.at_, 0, quoteB, []⟩ _ rfl]
      simp [shR, shP, shiftT, shN]
  split
  · split
    · rfl
    · cases hop : r.op with
      | nil =>
        have : (shR d row0 tops0 r).op = [] := by simp [shR, hop]
        rw [if_pos this, if_pos rfl]
      | cons p ps =>
        have : (shR d row0 tops0 r).op ≠ [] := by simp [shR, hop]
        rw [if_neg this, if_neg (by simp)]
        simp only []
        unfold close
        rw [hop]
        have : (shR d row0 tops0 r).op = shP d row0.length p :: ps.map (shP d row0.length) := by simp [shR, hop]
        rw [this]
        simp only []
        rw [← putO_sh d row0 tops0 ps r.row r.tops ⟨4, p.at_, 0, emp, p.l⟩]
        rfl
  · rfl
theorem tokens_sh (d : Nat) (row0 : List Nd) (tops0 : List Nat) : ∀ (ts : List Tk) (r : Rd), tokens (ts.map (shiftT d)) (shR d row0 tops0 r) = match tokens ts r with
    | .error (a, e) => .error (a + d, e)
    | .ok r => .ok (shR d row0 tops0 r) := by
  intro ts
  induction ts with
  | nil => intro r; rfl
  | cons t ts ih =>
    intro r
    rw [List.map_cons]
    simp only [tokens]
    rw [token_sh]
    cases token r t with
    | error e => simp [shiftT]
    | ok r1 => simp only []; exact ih r1
theorem fin_sh (d : Nat) (row0 : List Nd) (tops0 : List Nat) (X : Except (Int × Int) Rd) : fin (match X with | .error (a, e) => .error (a + d, e) | .ok r => .ok (shR d row0 tops0 r)) = match fin X with
    | .error (a, e) => .error (a + d, e)
    | .ok r => .ok (shR d row0 tops0 r) := by
  cases X with
  | error e => obtain ⟨a, e⟩ := e; rfl
  | ok r =>
    simp only [fin]
    unfold endE
    cases hop : r.op with
    | nil => simp [shR, hop]
    | cons p ps =>
      have : (shR d row0 tops0 r).op = shP d row0.length p :: ps.map (shP d row0.length) := by simp [shR, hop]
      rw [this]
      simp only []
      have e1 : (shP d row0.length p).q = p.q := rfl
      rw [e1]
      split <;> simp [shP]
theorem tokens_app : ∀ (ts us : List Tk) (r : Rd), tokens (ts ++ us) r = match tokens ts r with
    | .error e => .error e
    | .ok r => tokens us r := by
  intro ts
  induction ts with
  | nil => intro us r; rfl
  | cons t ts ih =>
    intro us r
    rw [List.cons_append]
    simp only [tokens]
    cases token r t with
    | error e => rfl
    | ok r1 => simp only []; exact ih us r1
theorem lex_joined (a b y : ByteArray) (ha : a.size ≤ 1500) (hb : b.size ≤ 1500) (hy : a ++ ⟨#[10]⟩ ++ b = y) :
    ∀ ta, lex a = .ok ta → (∀ q e, lex b = .error (q, e) → lex y = .error (q + (a.size + 1), e)) ∧ ∀ tb, lex b = .ok tb → lex y = .ok (ta ++ tb.map (shiftT (a.size + 1))) := by
  have hby : bts y = bts a ++ 10 :: bts b := by
    rw [← hy, bts_append, bts_append, List.append_assoc]; rfl
  have hys : y.size ≤ 4000 := by
    rw [← size_bts, hby, List.length_append, List.length_cons, size_bts, size_bts]; omega
  rw [lex_small (show a.size ≤ 4000 by omega), lex_small (show b.size ≤ 4000 by omega), lex_small hys, hby]
  rw [lexL_nl _ _ _ _ _ (Nat.le_refl _)]
  intro ta h
  rw [h]
  have hsh := lexL_shift (a.size + 1) ta _ (bts b) 0 [] (Nat.le_refl _)
  rw [List.map_nil, List.append_nil] at hsh
  have e0 : 0 + (bts a).length + 1 = 0 + (a.size + 1) := by rw [size_bts]; omega
  simp only [e0, hsh]
  exact ⟨fun q e h2 => by rw [h2], fun tb h2 => by rw [h2]⟩
theorem read_joined (a b y : ByteArray) (ha : a.size ≤ 1500) (hb : b.size ≤ 1500) (hy : a ++ ⟨#[10]⟩ ++ b = y) {ra : Rd} (h : read a = .ok ra) : read y = match read b with
    | .error (p, e) => .error (p + ((a.size + 1 : Nat) : Int), e)
    | .ok rb => .ok (shR (a.size + 1) ra.row ra.tops rb) := by
  obtain ⟨ta, h1, h2, h3⟩ := read_ok h
  obtain ⟨g1, g2⟩ := lex_joined a b y ha hb hy ta h1
  cases hb2 : lex b with
  | error e =>
    obtain ⟨q, e⟩ := e
    have : read b = .error ((q : Int), e) := by unfold read; rw [hb2]
    rw [this]
    unfold read
    rw [g1 q e hb2]
    simp only []
    rw [Int.natCast_add]
  | ok tb =>
    rw [read_fin hb2, read_fin (g2 tb hb2), tokens_app, h2]
    simp only []
    have e : ra = shR (a.size + 1) ra.row ra.tops ⟨[], [], []⟩ := by
      obtain ⟨x, y, z⟩ := ra
      simp only at h3
      subst h3
      simp [shR]
    conv => lhs; rw [e]
    rw [tokens_sh, fin_sh]
end RX
end Go.Proofs.YtaghlpolljaedaaGreat
