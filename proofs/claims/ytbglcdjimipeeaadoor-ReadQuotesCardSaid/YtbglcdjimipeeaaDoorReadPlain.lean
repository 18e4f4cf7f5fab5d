/-
  Layer 6 in plain words: a row of tokens as data, token by token. No condition.
-/
import Derived.Test.YtbglcdjimipeeaaDoorLexPlain
namespace Go.Proofs.YtbglcdjimipeeaaDoor
namespace RX
open LX
/-- A datum: what, where, its number, its letters, its list. -/
structure Nd where
  kind : Int
  at_ : Int
  n : Int
  s : ByteArray
  l : List Nat
/-- What is open: where it began, whether it is a quote, what it has so far. -/
structure Pt where
  at_ : Int
  q : Bool
  l : List Nat
/-- Data, those by themselves, what is open (what was opened last is the first). -/
structure Rd where
  row : List Nd
  tops : List Nat
  op : List Pt
/-- A datum that is whole; quotes that are whole by it are put, too. -/
def putO : List Pt → List Nd → List Nat → Nd → Rd
  | [], row, tops, x => ⟨row ++ [x], tops ++ [row.length], []⟩
  | p :: ps, row, tops, x =>
    if p.q = true ∧ p.l.length + 1 = 2 then putO ps (row ++ [x]) tops ⟨4, p.at_, 0, emp, p.l ++ [row.length]⟩
    else ⟨row ++ [x], tops, ⟨p.at_, p.q, p.l ++ [row.length]⟩ :: ps⟩
def put (r : Rd) (x : Nd) : Rd := putO r.op r.row r.tops x
def close (r : Rd) : Rd := match r.op with
  | [] => r
  | p :: ps => putO ps r.row r.tops ⟨4, p.at_, 0, emp, p.l⟩
def quoteB : ByteArray := ⟨#[113, 117, 111, 116, 101]⟩
/-- Within a quote? -/
def inQ (r : Rd) : Bool := match r.op with
  | [] => false
  | p :: _ => p.q
/-- One token; or what is wrong of it. -/
def token (r : Rd) (t : Tk) : Except Int Rd :=
  if t.kind = 4 then .ok (put r ⟨1, t.at_, t.n, emp, []⟩)
  else if t.kind = 5 then .ok (put r ⟨2, t.at_, t.n, emp, []⟩)
  else if t.kind = 6 then .ok (put r ⟨3, t.at_, 0, t.s, []⟩)
  else if t.kind = 1 then (if 50 ≤ r.op.length then .error 62 else .ok ⟨r.row, r.tops, ⟨t.at_, false, []⟩ :: r.op⟩)
  else if t.kind = 3 then (if 50 ≤ r.op.length then .error 62 else .ok (put ⟨r.row, r.tops, ⟨t.at_, true, []⟩ :: r.op⟩ ⟨3, t.at_, 0, quoteB, []⟩))
  else if t.kind = 2 then (if inQ r = true then .error 63 else if r.op = [] then .error 61 else .ok (close r))
  else .ok r
def tokens : List Tk → Rd → Except (Int × Int) Rd
  | [], r => .ok r
  | t :: ts, r => match token r t with
    | .error e => .error (t.at_, e)
    | .ok r => tokens ts r
def readT (ts : List Tk) : Except (Int × Int) Rd := match tokens ts ⟨[], [], []⟩ with
  | .error e => .error e
  | .ok r => match r.op with
    | [] => .ok r
    | p :: _ => match ts.getLast? with
      | none => .error (p.at_, 60)
      | some t => if t.kind = 3 then .error (t.at_, 63) else .error (p.at_, 60)
def read (s : ByteArray) : Except (Int × Int) Rd := match LX.lex s with
  | .error (q, e) => .error ((q : Int), e)
  | .ok ts => readT ts
/-! ### how much there is -/
theorem putO_len : ∀ (ps : List Pt) (row : List Nd) (tops : List Nat) (x : Nd), (putO ps row tops x).row.length + (putO ps row tops x).op.length ≤ row.length + ps.length + 1 ∧ row.length + 1 ≤ (putO ps row tops x).row.length ∧ (putO ps row tops x).op.length ≤ ps.length := by
  intro ps
  induction ps with
  | nil => intro row tops x; simp [putO]
  | cons p ps ih =>
    intro row tops x
    unfold putO
    split
    · have := ih (row ++ [x]) tops ⟨4, p.at_, 0, emp, p.l ++ [row.length]⟩
      simp only [List.length_append, List.length_cons, List.length_nil] at this ⊢
      omega
    · simp only [List.length_append, List.length_cons, List.length_nil]
      omega
end RX
end Go.Proofs.YtbglcdjimipeeaaDoor
