/-
  Layer 9's ScopeDeep: functions within each other, of one name each, as tokens and as data. No condition.
-/
import Derived.Test.YtedbaegdmianaaaDoorQScoNmP
namespace Go.Proofs.YtedbaegdmianaaaDoor
namespace SC
open LX RX SX EX
def nmU (c : Nat) : UInt8 := UInt8.ofNat (97 + c)
def nmB (c : Nat) : ByteArray := ⟨#[nmU c]⟩
def lvB (c : Nat) : List UInt8 := [40, 108, 97, 109, 98, 100, 97, 32, 40, nmU c, 41, 32]
def lvT (c a : Nat) : List Tk := [⟨1, a, 0, emp⟩, ⟨6, (a + 1 : Nat), 0, nLambda⟩, ⟨1, (a + 8 : Nat), 0, emp⟩, ⟨6, (a + 9 : Nat), 0, nmB c⟩, ⟨2, (a + 10 : Nat), 0, emp⟩]
theorem lex_lv (c : Nat) (hc : c < 4) (r : List UInt8) (a : Nat) (out : List Tk) : lexL (lvB c ++ r) a out = lexL r (a + 12) (out ++ lvT c a) := by
  have s1 : ∀ r, LX.step (40 :: r) = .tok 1 0 emp 1 := fun r => rfl
  have s2 : ∀ r, LX.step (108 :: 97 :: 109 :: 98 :: 100 :: 97 :: 32 :: r) = .tok 6 0 nLambda 6 := fun r => rfl
  have s3 : ∀ r, LX.step (32 :: r) = .skip 1 := fun r => rfl
  have s4 : ∀ r, LX.step (nmU c :: 41 :: r) = .tok 6 0 (nmB c) 1 := fun r => by
    rcases c with _ | _ | _ | _ | c
    · rfl
    · rfl
    · rfl
    · rfl
    · omega
  have s5 : ∀ r, LX.step (41 :: r) = .tok 2 0 emp 1 := fun r => rfl
  show lexL (40 :: 108 :: 97 :: 109 :: 98 :: 100 :: 97 :: 32 :: 40 :: nmU c :: 41 :: 32 :: r) a out = _
  rw [lexL_step, s1]
  simp only [List.drop_succ_cons, List.drop_zero]
  rw [lexL_step, s2]
  simp only [List.drop_succ_cons, List.drop_zero]
  rw [lexL_step, s3]
  simp only [List.drop_succ_cons, List.drop_zero]
  rw [lexL_step, s1]
  simp only [List.drop_succ_cons, List.drop_zero]
  rw [lexL_step, s4]
  simp only [List.drop_succ_cons, List.drop_zero]
  rw [lexL_step, s5]
  simp only [List.drop_succ_cons, List.drop_zero]
  rw [lexL_step, s3]
  simp only [List.drop_succ_cons, List.drop_zero]
  simp [lvT, Nat.add_assoc]
def clT : Nat → Nat → List Tk
  | 0, _ => []
  | n + 1, a => ⟨2, a, 0, emp⟩ :: clT n (a + 1)
theorem lex_cl : ∀ (n a : Nat) (out : List Tk), lexL (List.replicate n 41) a out = .ok (out ++ clT n a) := by
  intro n
  induction n with
  | zero => intro a out; rw [List.replicate_zero, lexL_nil]; simp [clT]
  | succ n ih =>
    intro a out
    have s5 : LX.step (41 :: List.replicate n 41) = .tok 2 0 emp 1 := rfl
    rw [List.replicate_succ, lexL_step, s5]
    simp only [List.drop_succ_cons, List.drop_zero]
    rw [ih]
    simp [clT]
/-- The levels' tokens. -/
def lvsT : List Nat → Nat → List Tk
  | [], _ => []
  | c :: l, j => lvT c (12 * j) ++ lvsT l (j + 1)
def lvsB : List Nat → List UInt8
  | [] => []
  | c :: l => lvB c ++ lvsB l
theorem lex_lvs : ∀ (l : List Nat) (j : Nat) (r : List UInt8) (out : List Tk), (∀ c ∈ l, c < 4) → lexL (lvsB l ++ r) (12 * j) out = lexL r (12 * (j + l.length)) (out ++ lvsT l j) := by
  intro l
  induction l with
  | nil => intro j r out _; simp [lvsB, lvsT]
  | cons c l ih =>
    intro j r out h
    have e : lvsB (c :: l) ++ r = lvB c ++ (lvsB l ++ r) := by simp [lvsB]
    rw [e, lex_lv c (h c (List.mem_cons_self ..)), show 12 * j + 12 = 12 * (j + 1) by omega, ih (j + 1) r _ (fun x hx => h x (List.mem_cons_of_mem _ hx))]
    simp [lvsT, Nat.add_assoc, Nat.add_comm 1]
/-- The whole text: levels, a name, closings. -/
def dpB (l : List Nat) (c : Nat) : List UInt8 := lvsB l ++ (nmU c :: List.replicate l.length 41)
def dpT (l : List Nat) (c : Nat) : List Tk := lvsT l 0 ++ (⟨6, (12 * l.length : Nat), 0, nmB c⟩ :: clT l.length (12 * l.length + 1))
theorem lex_dp (l : List Nat) (c : Nat) (hl : ∀ c ∈ l, c < 4) (hc : c < 4) : lexL (dpB l c) 0 [] = .ok (dpT l c) := by
  have h := lex_lvs l 0 (nmU c :: List.replicate l.length 41) [] hl
  have s4 : LX.step (nmU c :: List.replicate l.length 41) = .tok 6 0 (nmB c) 1 := by
    cases l.length with
    | zero =>
      rcases c with _ | _ | _ | _ | c
      · rfl
      · rfl
      · rfl
      · rfl
      · omega
    | succ n =>
      rw [List.replicate_succ]
      rcases c with _ | _ | _ | _ | c
      · rfl
      · rfl
      · rfl
      · rfl
      · omega
  rw [show 12 * 0 = 0 from rfl] at h
  unfold dpB
  rw [h, lexL_step, s4]
  simp only [List.drop_succ_cons, List.drop_zero]
  rw [lex_cl]
  simp [dpT]
theorem lvsB_len (l : List Nat) : (lvsB l).length = 12 * l.length := by
  induction l with
  | nil => rfl
  | cons c l ih => simp only [lvsB, List.length_append, List.length_cons, ih]; simp [lvB]; omega
theorem dpB_len (l : List Nat) (c : Nat) : (dpB l c).length = 13 * l.length + 1 := by
  simp [dpB, lvsB_len]; omega
/-! ### as data -/
def opn : Nat → List RX.Pt
  | 0 => []
  | j + 1 => ⟨(12 * j : Nat), false, [3 * j, 3 * j + 2]⟩ :: opn j
def lvN (c j : Nat) : List Nd := [⟨3, (12 * j + 1 : Nat), 0, nLambda, []⟩, ⟨3, (12 * j + 9 : Nat), 0, nmB c, []⟩, ⟨4, (12 * j + 8 : Nat), 0, emp, [3 * j + 1]⟩]
def lvsN : List Nat → Nat → List Nd
  | [], _ => []
  | c :: l, j => lvN c j ++ lvsN l (j + 1)
theorem lvsN_len : ∀ (l : List Nat) (j : Nat), (lvsN l j).length = 3 * l.length := by
  intro l
  induction l with
  | nil => intro j; rfl
  | cons c l ih => intro j; simp only [lvsN, List.length_append, List.length_cons, ih]; simp [lvN]; omega
theorem opn_len (j : Nat) : (opn j).length = j := by
  induction j with
  | zero => rfl
  | succ j ih => simp [opn, ih]
theorem put_in (p : RX.Pt) (ps : List RX.Pt) (row : List Nd) (tops : List Nat) (x : Nd) (hq : p.q = false) : RX.put ⟨row, tops, p :: ps⟩ x = ⟨row ++ [x], tops, ⟨p.at_, false, p.l ++ [row.length]⟩ :: ps⟩ := by
  unfold RX.put
  simp only [putO, hq]
  simp
theorem tk6 (r : Rd) (a : Int) (s : ByteArray) : token r ⟨6, a, 0, s⟩ = .ok (RX.put r ⟨3, a, 0, s, []⟩) := rfl
theorem tk1 (r : Rd) (a : Int) (h : ¬ 50 ≤ r.op.length) : token r ⟨1, a, 0, emp⟩ = .ok ⟨r.row, r.tops, ⟨a, false, []⟩ :: r.op⟩ := by
  show (if 50 ≤ r.op.length then Except.error 62 else _) = _
  rw [if_neg h]
theorem tk2 (row : List Nd) (tops : List Nat) (a b : Int) (l : List Nat) (ps : List RX.Pt) : token ⟨row, tops, ⟨a, false, l⟩ :: ps⟩ ⟨2, b, 0, emp⟩ = .ok (putO ps row tops ⟨4, a, 0, emp, l⟩) := by
  simp [token, inQ, close]
theorem read_lv (c j : Nat) (row : List Nd) (ts : List Tk) (hr : row.length = 3 * j) (hj : j < 40) : tokens (lvT c (12 * j) ++ ts) ⟨row, [], opn j⟩ = tokens ts ⟨row ++ lvN c j, [], opn (j + 1)⟩ := by
  have h1 : ¬ 50 ≤ (opn j).length := by rw [opn_len]; omega
  simp only [lvT, List.cons_append, List.nil_append, tokens]
  have e1 : token ⟨row, [], opn j⟩ ⟨1, (12 * j : Nat), 0, emp⟩ = .ok ⟨row, [], ⟨(12 * j : Nat), false, []⟩ :: opn j⟩ := by
    rw [tk1 _ _ h1]
  rw [e1]
  simp only
  have e2 : token ⟨row, [], ⟨(12 * j : Nat), false, []⟩ :: opn j⟩ ⟨6, (12 * j + 1 : Nat), 0, nLambda⟩ = .ok ⟨row ++ [⟨3, (12 * j + 1 : Nat), 0, nLambda, []⟩], [], ⟨(12 * j : Nat), false, [3 * j]⟩ :: opn j⟩ := by
    rw [tk6, put_in _ _ _ _ _ rfl, hr]; rfl
  rw [e2]
  simp only
  have e3 : ∀ (row : List Nd) (p : RX.Pt), token ⟨row, [], p :: opn j⟩ ⟨1, (12 * j + 8 : Nat), 0, emp⟩ = .ok ⟨row, [], ⟨(12 * j + 8 : Nat), false, []⟩ :: p :: opn j⟩ := by
    intro row p
    have h2 : ¬ 50 ≤ (p :: opn j).length := by rw [List.length_cons, opn_len]; omega
    rw [tk1 _ _ h2]
  rw [e3]
  simp only
  have e4 : ∀ (row : List Nd) (ps : List RX.Pt), token ⟨row, [], ⟨(12 * j + 8 : Nat), false, []⟩ :: ps⟩ ⟨6, (12 * j + 9 : Nat), 0, nmB c⟩ = .ok ⟨row ++ [⟨3, (12 * j + 9 : Nat), 0, nmB c, []⟩], [], ⟨(12 * j + 8 : Nat), false, [row.length]⟩ :: ps⟩ := by
    intro row ps
    rw [tk6, put_in _ _ _ _ _ rfl]; rfl
  rw [e4]
  simp only
  have e5 : ∀ (row : List Nd) (l : List Nat) (a a' : Int) (l' : List Nat) (ps : List RX.Pt), token ⟨row, [], ⟨a, false, l⟩ :: ⟨a', false, l'⟩ :: ps⟩ ⟨2, (12 * j + 10 : Nat), 0, emp⟩ = .ok ⟨row ++ [⟨4, a, 0, emp, l⟩], [], ⟨a', false, l' ++ [row.length]⟩ :: ps⟩ := by
    intro row l a a' l' ps
    rw [tk2]
    simp [putO]
  rw [e5]
  simp [lvN, opn, hr]
theorem read_lvs : ∀ (l : List Nat) (j : Nat) (row : List Nd) (ts : List Tk), row.length = 3 * j → j + l.length ≤ 40 → tokens (lvsT l j ++ ts) ⟨row, [], opn j⟩ = tokens ts ⟨row ++ lvsN l j, [], opn (j + l.length)⟩ := by
  intro l
  induction l with
  | nil => intro j row ts _ _; simp [lvsT, lvsN]
  | cons c l ih =>
    intro j row ts hr hj
    rw [List.length_cons] at hj
    have e : lvsT (c :: l) j ++ ts = lvT c (12 * j) ++ (lvsT l (j + 1) ++ ts) := by simp [lvsT]
    rw [e, read_lv c j row _ hr (by omega), ih (j + 1) _ ts (by simp [lvN, hr]; omega) (by omega)]
    simp [lvsN, Nat.add_assoc, Nat.add_comm 1]
/-- The lists of the levels below i, closed one after another. -/
def clN : Nat → Nat → List Nd
  | 0, _ => []
  | i + 1, m => ⟨4, (12 * i : Nat), 0, emp, [3 * i, 3 * i + 2, m]⟩ :: clN i (m + 1)
def ful (i m : Nat) : List RX.Pt := match i with
  | 0 => []
  | i + 1 => ⟨(12 * i : Nat), false, [3 * i, 3 * i + 2, m]⟩ :: opn i
theorem clN_len : ∀ (i m : Nat), (clN i m).length = i := by
  intro i
  induction i with
  | zero => intro m; rfl
  | succ i ih => intro m; simp [clN, ih]
theorem read_cl : ∀ (i m a : Nat) (row : List Nd), row.length = m + 1 → tokens (clT (i + 1) a) ⟨row, [], ful (i + 1) m⟩ = .ok ⟨row ++ clN (i + 1) m, [m + 1 + i], []⟩ := by
  intro i
  induction i with
  | zero =>
    intro m a row hr
    simp only [clT, tokens, ful]
    rw [tk2]
    simp [clN, hr, opn, putO]
  | succ i ih =>
    intro m a row hr
    have e : token ⟨row, [], ful (i + 2) m⟩ ⟨2, (a : Nat), 0, emp⟩ = .ok ⟨row ++ [⟨4, (12 * (i + 1) : Nat), 0, emp, [3 * (i + 1), 3 * (i + 1) + 2, m]⟩], [], ful (i + 1) (m + 1)⟩ := by
      simp only [ful]
      rw [tk2]
      simp [hr, opn, putO]
    show tokens (⟨2, (a : Nat), 0, emp⟩ :: clT (i + 1) (a + 1)) _ = _
    rw [tokens, e]
    simp only
    rw [ih (m + 1) (a + 1) _ (by simp [hr])]
    simp [clN]
    omega
def dpN (l : List Nat) (c : Nat) : List Nd := lvsN l 0 ++ (⟨3, (12 * l.length : Nat), 0, nmB c, []⟩ :: clN l.length (3 * l.length))
theorem read_dp (l : List Nat) (c : Nat) (hn : l.length ≤ 40) : readT (dpT l c) = .ok ⟨dpN l c, [4 * l.length], []⟩ := by
  have h := read_lvs l 0 [] (⟨6, (12 * l.length : Nat), 0, nmB c⟩ :: clT l.length (12 * l.length + 1)) rfl (by omega)
  have hlen := lvsN_len l 0
  have e : tokens (dpT l c) ⟨[], [], []⟩ = .ok ⟨dpN l c, [4 * l.length], []⟩ := by
    show tokens (lvsT l 0 ++ _) ⟨[], [], opn 0⟩ = _
    rw [h, tokens]
    unfold dpN
    generalize lvsN l 0 = row at *
    rw [Nat.zero_add]
    generalize l.length = n at *
    cases n with
    | zero =>
      rw [tk6]
      simp only [opn, RX.put, putO]
      simp [clT, clN, tokens, hlen]
    | succ n =>
      have e6 : token ⟨[] ++ row, [], opn (n + 1)⟩ ⟨6, (12 * (n + 1) : Nat), 0, nmB c⟩ = .ok ⟨row ++ [⟨3, (12 * (n + 1) : Nat), 0, nmB c, []⟩], [], ful (n + 1) (3 * (n + 1))⟩ := by
        rw [tk6]
        simp only [opn]
        rw [put_in _ _ _ _ _ rfl]
        simp [ful, hlen]
      rw [e6]
      simp only
      rw [read_cl n (3 * (n + 1)) _ _ (by simp [hlen])]
      simp
      omega
  unfold readT
  rw [e]
end SC
end Go.Proofs.YtedbaegdmianaaaDoor
