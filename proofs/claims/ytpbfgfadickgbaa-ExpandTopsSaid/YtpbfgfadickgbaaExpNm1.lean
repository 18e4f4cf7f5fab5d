/-
  Layer 8's law of names in plain words: the text of a row of names, read, and expanded. Condition: no more than 12 of the twelve.
-/
import Derived.Test.YtpbfgfadickgbaaExpL
import Derived.Test.YtpbfgfadickgbaaReadQuoteF
namespace Go.Proofs.Ytpbfgfadickgbaa
open Go.RowKit
namespace EW
open LX SX EX
open RX (Nd Rd tokens_app read_fin fin)
def nmB : Nat → ByteArray
  | 0 => ⟨#[97]⟩
  | 1 => ⟨#[98]⟩
  | 2 => ⟨#[99, 33]⟩
  | 3 => ⟨#[100, 49]⟩
  | 4 => ⟨#[101]⟩
  | 5 => ⟨#[102]⟩
  | 6 => ⟨#[103]⟩
  | 7 => ⟨#[104]⟩
  | 8 => ⟨#[105, 102]⟩
  | 9 => ⟨#[55]⟩
  | 10 => ⟨#[40, 97, 41]⟩
  | _ => ⟨#[101, 108, 115, 101]⟩
def sO (c : Nat) : ByteArray := if c = 9 ∨ c = 10 then emp else nmB c
def ndO (c p n : Nat) : List Nd := if c = 10 then [⟨3, ((p + 1 : Nat) : Int), 0, ⟨#[97]⟩, []⟩, ⟨4, (p : Int), 0, emp, [n]⟩] else if c = 9 then [⟨1, (p : Int), 7, emp, []⟩] else [⟨3, (p : Int), 0, nmB c, []⟩]
def inO (c n : Nat) : Nat := if c = 10 then n + 1 else n
def tkO (c p : Nat) : List Tk := if c = 10 then [⟨1, (p : Int), 0, emp⟩, ⟨6, ((p + 1 : Nat) : Int), 0, ⟨#[97]⟩⟩, ⟨2, ((p + 1 + 1 : Nat) : Int), 0, emp⟩] else if c = 9 then [⟨4, (p : Int), 7, emp⟩] else [⟨6, (p : Int), 0, nmB c⟩]
def toksO : List Nat → Nat → List Tk
  | [], _ => []
  | c :: cs, p => tkO c p ++ toksO cs (p + (nmB c).size + 1)
def posO : List Nat → Nat → Nat
  | [], p => p
  | c :: cs, p => posO cs (p + (nmB c).size + 1)
def rowO : List Nat → Nat → List Nd → List Nd
  | [], _, row => row
  | c :: cs, p, row => rowO cs (p + (nmB c).size + 1) (row ++ ndO c p row.length)
def lstO : List Nat → Nat → List Nd → List Nat → List Nat
  | [], _, _, l => l
  | c :: cs, p, row, l => lstO cs (p + (nmB c).size + 1) (row ++ ndO c p row.length) (l ++ [inO c row.length])
def textO (cs : List Nat) : List UInt8 := cs.flatMap fun c => bts (nmB c) ++ [32]
theorem c12 {c : Nat} (h : c < 12) : c = 0 ∨ c = 1 ∨ c = 2 ∨ c = 3 ∨ c = 4 ∨ c = 5 ∨ c = 6 ∨ c = 7 ∨ c = 8 ∨ c = 9 ∨ c = 10 ∨ c = 11 := by omega
theorem lexL_piece {c : Nat} (h : c < 12) (p : Nat) (out : List Tk) : lexL (bts (nmB c)) p out = .ok (out ++ tkO c p) := by
  rcases c12 h with rfl | rfl | rfl | rfl | rfl | rfl | rfl | rfl | rfl | rfl | rfl | rfl
  all_goals first | rfl | (show _ = Except.ok (out ++ [⟨1, (p : Int), 0, emp⟩, ⟨6, ((p + 1 : Nat) : Int), 0, ⟨#[97]⟩⟩, ⟨2, ((p + 1 + 1 : Nat) : Int), 0, emp⟩]); rw [show out ++ [⟨1, (p : Int), 0, emp⟩, ⟨6, ((p + 1 : Nat) : Int), 0, ⟨#[97]⟩⟩, ⟨2, ((p + 1 + 1 : Nat) : Int), 0, emp⟩] = out ++ [⟨1, (p : Int), 0, emp⟩] ++ [⟨6, ((p + 1 : Nat) : Int), 0, ⟨#[97]⟩⟩] ++ [⟨2, ((p + 1 + 1 : Nat) : Int), 0, emp⟩] from by simp]; rfl)
theorem no59 {c : Nat} (h : c < 12) : ∀ x ∈ bts (nmB c), x ≠ 59 := by
  rcases c12 h with rfl | rfl | rfl | rfl | rfl | rfl | rfl | rfl | rfl | rfl | rfl | rfl <;> decide
theorem nm_size {c : Nat} (h : c < 12) : 1 ≤ (nmB c).size ∧ (nmB c).size ≤ 4 := by
  rcases c12 h with rfl | rfl | rfl | rfl | rfl | rfl | rfl | rfl | rfl | rfl | rfl | rfl <;> decide
theorem lexL_pieces (b : List UInt8) : ∀ (cs : List Nat) (p : Nat) (out : List Tk), (∀ c ∈ cs, c < 12) → lexL (textO cs ++ b) p out = lexL b (posO cs p) (out ++ toksO cs p) := by
  intro cs
  induction cs with
  | nil => intro p out _; simp [textO, toksO, posO]
  | cons c cs ih =>
    intro p out h
    have h1 := h c (List.mem_cons_self ..)
    have e : textO (c :: cs) ++ b = bts (nmB c) ++ 32 :: (textO cs ++ b) := by simp [textO]
    rw [e, lexL_sp _ _ _ _ _ (Nat.le_refl _) (no59 h1), lexL_piece h1]
    simp only
    rw [size_bts, ih _ _ (fun x hx => h x (List.mem_cons_of_mem _ hx)), List.append_assoc]
    rfl
theorem tokens_piece {c : Nat} (h : c < 12) (p : Nat) (row : List Nd) (l : List Nat) (a : Int) (x : RX.Pt) : RX.tokens (tkO c p) ⟨row, [], [⟨a, false, l⟩, x]⟩ = .ok ⟨row ++ ndO c p row.length, [], [⟨a, false, l ++ [inO c row.length]⟩, x]⟩ := by
  rcases c12 h with rfl | rfl | rfl | rfl | rfl | rfl | rfl | rfl | rfl | rfl | rfl | rfl
  all_goals first | rfl | (simp [tkO, ndO, inO, RX.tokens, RX.token, RX.put, RX.putO, RX.inQ, RX.close])
theorem tokens_pieces (a : Int) (x : RX.Pt) : ∀ (cs : List Nat) (p : Nat) (row : List Nd) (l : List Nat), (∀ c ∈ cs, c < 12) → RX.tokens (toksO cs p) ⟨row, [], [⟨a, false, l⟩, x]⟩ = .ok ⟨rowO cs p row, [], [⟨a, false, lstO cs p row l⟩, x]⟩ := by
  intro cs
  induction cs with
  | nil => intro p row l _; rfl
  | cons c cs ih =>
    intro p row l h
    unfold toksO
    rw [tokens_app, tokens_piece (h c (List.mem_cons_self ..))]
    simp only
    rw [ih _ _ _ (fun x hx => h x (List.mem_cons_of_mem _ hx))]
    rfl
def headO : List UInt8 := [40, 108, 97, 109, 98, 100, 97, 32, 40]
def tailO : List UInt8 := [41, 32, 49, 41]
def lamN : Nd := ⟨3, 1, 0, nLambda, []⟩
theorem lex_head (b : List UInt8) : lexL (headO ++ b) 0 [] = lexL b 9 [⟨1, 0, 0, emp⟩, ⟨6, 1, 0, nLambda⟩, ⟨1, 8, 0, emp⟩] := by
  show lexL (40 :: 108 :: 97 :: 109 :: 98 :: 100 :: 97 :: 32 :: 40 :: b) 0 [] = _
  rw [lexL_step]
  show lexL (108 :: 97 :: 109 :: 98 :: 100 :: 97 :: 32 :: 40 :: b) 1 [⟨1, 0, 0, emp⟩] = _
  rw [lexL_step]
  show lexL (32 :: 40 :: b) 7 [⟨1, 0, 0, emp⟩, ⟨6, 1, 0, nLambda⟩] = _
  rw [lexL_blank, lexL_step]
  rfl
theorem lex_tail (q : Nat) (out : List Tk) : lexL tailO q out = .ok (out ++ [⟨2, (q : Int), 0, emp⟩, ⟨4, ((q + 1 + 1 : Nat) : Int), 1, emp⟩, ⟨2, ((q + 1 + 1 + 1 : Nat) : Int), 0, emp⟩]) := by
  show lexL (41 :: 32 :: 49 :: 41 :: []) q out = _
  rw [lexL_step]
  show lexL (32 :: 49 :: 41 :: []) (q + 1) (out ++ [⟨2, (q : Int), 0, emp⟩]) = _
  rw [lexL_blank, lexL_step]
  show lexL (41 :: []) (q + 1 + 1 + 1) (out ++ [⟨2, (q : Int), 0, emp⟩] ++ [⟨4, ((q + 1 + 1 : Nat) : Int), 1, emp⟩]) = _
  rw [lexL_step]
  show lexL [] (q + 1 + 1 + 1 + 1) (out ++ [⟨2, (q : Int), 0, emp⟩] ++ [⟨4, ((q + 1 + 1 : Nat) : Int), 1, emp⟩] ++ [⟨2, ((q + 1 + 1 + 1 : Nat) : Int), 0, emp⟩]) = _
  rw [lexL_nil]
  simp
/-- What is read. -/
def finO (cs : List Nat) : List Nd := rowO cs 9 [lamN] ++ [⟨4, 8, 0, emp, lstO cs 9 [lamN] []⟩, ⟨1, ((posO cs 9 + 1 + 1 : Nat) : Int), 1, emp, []⟩, ⟨4, 0, 0, emp, [0, (rowO cs 9 [lamN]).length, (rowO cs 9 [lamN]).length + 1]⟩]
theorem textO_len : ∀ cs : List Nat, (∀ c ∈ cs, c < 12) → (textO cs).length ≤ 5 * cs.length := by
  intro cs
  induction cs with
  | nil => intro _; simp [textO]
  | cons c cs ih =>
    intro h
    have h1 := (nm_size (h c (List.mem_cons_self ..))).2
    have h2 := ih (fun x hx => h x (List.mem_cons_of_mem _ hx))
    simp only [textO, List.flatMap_cons, List.length_append, List.length_cons, List.length_nil, size_bts] at h2 ⊢
    omega
theorem read_O (cs : List Nat) (h : ∀ c ∈ cs, c < 12) (h12 : cs.length ≤ 12) : RX.read (str (headO ++ textO cs ++ tailO)) = .ok ⟨finO cs, [(rowO cs 9 [lamN]).length + 1 + 1], []⟩ := by
  have hs : (str (headO ++ textO cs ++ tailO)).size ≤ 4000 := by
    rw [← size_bts, RX.bts_mk]
    have := textO_len cs h
    simp only [List.length_append, headO, tailO, List.length_cons, List.length_nil]
    omega
  have hl : lex (str (headO ++ textO cs ++ tailO)) = .ok ([⟨1, 0, 0, emp⟩, ⟨6, 1, 0, nLambda⟩, ⟨1, 8, 0, emp⟩] ++ toksO cs 9 ++ [⟨2, ((posO cs 9 : Nat) : Int), 0, emp⟩, ⟨4, ((posO cs 9 + 1 + 1 : Nat) : Int), 1, emp⟩, ⟨2, ((posO cs 9 + 1 + 1 + 1 : Nat) : Int), 0, emp⟩]) := by
    rw [lex_small hs, RX.bts_mk, List.append_assoc, lex_head, lexL_pieces _ _ _ _ h, lex_tail]
  rw [read_fin hl, List.append_assoc, tokens_app]
  have e1 : RX.tokens [⟨1, 0, 0, emp⟩, ⟨6, 1, 0, nLambda⟩, ⟨1, 8, 0, emp⟩] ⟨[], [], []⟩ = .ok ⟨[lamN], [], [⟨8, false, []⟩, ⟨0, false, [0]⟩]⟩ := by rfl
  rw [e1]
  simp only
  rw [tokens_app, tokens_pieces _ _ _ _ _ _ h]
  simp only
  generalize hR : rowO cs 9 [lamN] = R
  generalize hL : lstO cs 9 [lamN] [] = L
  simp [RX.tokens, RX.token, RX.put, RX.putO, RX.inQ, RX.close, RX.fin, RX.endE, finO, hR, hL]
/-! ### which data the names are -/
theorem ndAt_app {r m : List Nd} {i : Nat} (h : i < r.length) : ndAt (r ++ m) i = ndAt r i := by
  unfold ndAt
  rw [List.getD_eq_getElem?_getD, List.getD_eq_getElem?_getD, List.getElem?_append_left h]
theorem ndAt_at {r : List Nd} (m : List Nd) (j : Nat) : ndAt (r ++ m) (r.length + j) = ndAt m j := by
  unfold ndAt
  rw [List.getD_eq_getElem?_getD, List.getD_eq_getElem?_getD, List.getElem?_append_right (by omega)]
  congr 2; omega
theorem ndO_in {c : Nat} (p : Nat) (r : List Nd) : (ndAt (r ++ ndO c p r.length) (inO c r.length)).s = sO c ∧ inO c r.length < (r ++ ndO c p r.length).length := by
  unfold inO ndO sO
  by_cases h : c = 10
  · subst h
    rw [if_pos rfl, if_pos rfl, if_pos (.inr rfl), ndAt_at]
    exact ⟨rfl, by simp⟩
  · rw [if_neg h, if_neg h]
    have := ndAt_at (r := r) (if c = 9 then [⟨1, (p : Int), 7, emp, []⟩] else [⟨3, (p : Int), 0, nmB c, []⟩]) 0
    rw [Nat.add_zero] at this
    rw [this]
    by_cases h9 : c = 9
    · rw [if_pos h9, if_pos (.inl h9)]; exact ⟨rfl, by simp⟩
    · rw [if_neg h9, if_neg (by omega)]; exact ⟨rfl, by simp⟩
theorem lstO_facts : ∀ (cs : List Nat) (p : Nat) (row : List Nd) (l : List Nat), (∀ i ∈ l, i < row.length) →
    (∀ i ∈ lstO cs p row l, i < (rowO cs p row).length) ∧ row.length ≤ (rowO cs p row).length ∧ (∀ i, i < row.length → ndAt (rowO cs p row) i = ndAt row i) ∧ (lstO cs p row l).map (fun i => (ndAt (rowO cs p row) i).s) = l.map (fun i => (ndAt row i).s) ++ cs.map sO := by
  intro cs
  induction cs with
  | nil => intro p row l h; exact ⟨h, Nat.le_refl _, fun _ _ => rfl, by simp [lstO, rowO]⟩
  | cons c cs ih =>
    intro p row l h
    obtain ⟨g1, g2⟩ := ndO_in (c := c) p row
    have hlen : row.length ≤ (row ++ ndO c p row.length).length := by simp
    have hl : ∀ i ∈ l ++ [inO c row.length], i < (row ++ ndO c p row.length).length := fun i hi => by
      rcases List.mem_append.1 hi with hi | hi
      · have := h i hi; omega
      · rw [List.mem_singleton.1 hi]; exact g2
    obtain ⟨k1, k2, k3, k4⟩ := ih (p + (nmB c).size + 1) (row ++ ndO c p row.length) (l ++ [inO c row.length]) hl
    refine ⟨k1, Nat.le_trans hlen k2, fun i hi => (k3 i (by omega)).trans (ndAt_app hi), ?_⟩
    show (lstO cs (p + (nmB c).size + 1) (row ++ ndO c p row.length) (l ++ [inO c row.length])).map (fun i => (ndAt (rowO cs (p + (nmB c).size + 1) (row ++ ndO c p row.length)) i).s) = _
    rw [k4, List.map_append, List.map_cons, List.map_nil, g1, List.map_cons]
    rw [List.map_congr_left (fun i hi => by rw [ndAt_app (h i hi)] : ∀ i ∈ l, (ndAt (row ++ ndO c p row.length) i).s = (ndAt row i).s)]
    simp
/-- The names of a row of texts. -/
def namesS : List ByteArray → List ByteArray → Option (List ByteArray)
  | [], acc => some acc
  | s :: l, acc => if s = emp ∨ reserved s = true then none else if acc.length = 100 ∨ s ∈ acc then none else namesS l (acc ++ [s])
theorem namesG_S' (ns : List Nd) : ∀ (l : List Nat) (acc : List ByteArray), namesG ns l acc = namesS (l.map fun i => (ndAt ns i).s) acc := by
  intro l
  induction l with
  | nil => intro acc; rfl
  | cons i l ih =>
    intro acc
    rw [List.map_cons]
    unfold namesG namesS nameOf
    by_cases h : (ndAt ns i).s = emp ∨ reserved (ndAt ns i).s = true
    · rw [if_pos h, if_pos h]
    · rw [if_neg h, if_neg h]
      simp only
      rw [ih]
theorem nm_inj {c d : Nat} (hc : c < 12) (hd : d < 12) (h : nmB c = nmB d) : c = d := by
  rcases c12 hc with rfl | rfl | rfl | rfl | rfl | rfl | rfl | rfl | rfl | rfl | rfl | rfl <;>
  rcases c12 hd with rfl | rfl | rfl | rfl | rfl | rfl | rfl | rfl | rfl | rfl | rfl | rfl <;>
  first | rfl | exact absurd h (by decide)
theorem sO_bad {c : Nat} (h : c < 12) : (sO c = emp ∨ reserved (sO c) = true) ↔ 8 ≤ c := by
  rcases c12 h with rfl | rfl | rfl | rfl | rfl | rfl | rfl | rfl | rfl | rfl | rfl | rfl <;> decide
theorem sO_nm {c : Nat} (h : c < 8) : sO c = nmB c := by unfold sO; rw [if_neg (by omega)]
/-- All of them are names, and none twice. -/
def okO (cs : List Nat) : Bool := decide ((∀ c ∈ cs, c < 8) ∧ (cs.map nmB).Nodup)
theorem okO_snoc (cs : List Nat) (c : Nat) : okO (cs ++ [c]) = (okO cs && decide (c < 8) && !decide (nmB c ∈ cs.map nmB)) := by
  unfold okO
  rw [Bool.eq_iff_iff]
  simp only [Bool.and_eq_true, decide_eq_true_eq, Bool.not_eq_true', decide_eq_false_iff_not, List.map_append, List.map_cons, List.map_nil, List.nodup_append, List.mem_append, List.mem_singleton]
  constructor
  · rintro ⟨h1, h2, _, h3⟩
    exact ⟨⟨⟨fun x hx => h1 x (.inl hx), h2⟩, h1 c (.inr rfl)⟩, fun hm => h3 _ hm _ rfl rfl⟩
  · rintro ⟨⟨⟨h1, h2⟩, h3⟩, h4⟩
    refine ⟨fun x hx => hx.elim (h1 x) (fun e => e ▸ h3), h2, by simp, fun a ha b hb e => ?_⟩
    subst hb; subst e; exact h4 ha
theorem namesS_O : ∀ (cs : List Nat) (acc : List ByteArray), (∀ c ∈ cs, c < 12) → acc.length + cs.length ≤ 100 → acc.Nodup → namesS (cs.map sO) acc = if (∀ c ∈ cs, c < 8) ∧ (acc ++ cs.map nmB).Nodup then some (acc ++ cs.map nmB) else none := by
  intro cs
  induction cs with
  | nil => intro acc _ _ h; simp [namesS, h]
  | cons c cs ih =>
    intro acc h hl hn
    have hc := h c (List.mem_cons_self ..)
    rw [List.map_cons, List.map_cons]
    simp only [List.length_cons] at hl
    unfold namesS
    by_cases h8 : 8 ≤ c
    · rw [if_pos ((sO_bad hc).2 h8), if_neg (fun hh => by have := hh.1 c (List.mem_cons_self ..); omega)]
    · rw [if_neg (fun hh => h8 ((sO_bad hc).1 hh)), sO_nm (by omega)]
      by_cases hm : nmB c ∈ acc
      · rw [if_pos (.inr hm), if_neg]
        rintro ⟨_, hh⟩
        exact (List.nodup_append.1 hh).2.2 _ hm _ (List.mem_cons_self ..) rfl
      · rw [if_neg (by rintro (e | e); omega; exact hm e)]
        have hn2 : (acc ++ [nmB c]).Nodup := by
          rw [List.nodup_append]
          refine ⟨hn, by simp, fun a ha b hb e => ?_⟩
          rw [List.mem_singleton.1 hb] at e; subst e; exact hm ha
        rw [ih _ (fun x hx => h x (List.mem_cons_of_mem _ hx)) (by rw [List.length_append]; simp; omega) hn2]
        rw [List.append_assoc, List.singleton_append]
        congr 1
        refine propext ⟨fun ⟨h1, h2⟩ => ⟨fun x hx => ?_, h2⟩, fun ⟨h1, h2⟩ => ⟨fun x hx => h1 x (List.mem_cons_of_mem _ hx), h2⟩⟩
        rcases List.mem_cons.1 hx with rfl | hx
        · omega
        · exact h1 x hx
theorem run_lam {ns : List Nd} {f i j k : Nat} {st : List Fm} {a q n : Int} {names : List ByteArray} (h1 : plan ns i true = lambdaP ns a [j, k]) (h2 : namesOf ns (ndAt ns j).l = some names) (h3 : (ndAt ns j).kind = 4) (h4 : plan ns k false = .mk (frm 1 q n) []) :
    run ns (f + 1 + 1) (.top i) st = .ok (st ++ [frm 1 q n] ++ [⟨6, a, 0, emp, names, [st.length]⟩], st.length + 1) := by
  have e : ev ns (.top i) = function a names (.dat k) := by
    show plan ns i true = _
    rw [h1]
    unfold lambdaP
    simp only [List.getD_cons_zero, List.drop_succ_cons, List.drop_zero, body]
    rw [h2]
    simp only
    rw [if_pos h3]
  have e2 : ev ns (.dat k) = .mk (frm 1 q n) [] := h4
  rw [run, e]
  unfold function onPl
  simp only
  unfold runs
  rw [run, e2]
  unfold onPl runs frm
  simp only
  simp
theorem run_lamBad {ns : List Nd} {f i j k : Nat} {st : List Fm} {a : Int} (h1 : plan ns i true = lambdaP ns a [j, k]) (h2 : namesOf ns (ndAt ns j).l = none) : run ns (f + 1) (.top i) st = .error a := by
  have e : ev ns (.top i) = .bad a := by
    show plan ns i true = _
    rw [h1]
    unfold lambdaP
    simp only [List.getD_cons_zero]
    rw [h2]
  rw [run, e]
  rfl
/-- What the text comes to. -/
theorem of_O (cs : List Nat) (h : ∀ c ∈ cs, c < 12) (h12 : cs.length ≤ 12) : ∃ q : Int, ofM (str (headO ++ textO cs ++ tailO)) = if okO cs = true then .ok ([frm 1 q 1, ⟨6, 0, 0, emp, cs.map nmB, [0]⟩], [1]) else .error 0 := by
  refine ⟨((posO cs 9 + 1 + 1 : Nat) : Int), ?_⟩
  unfold ofM
  rw [read_O cs h h12]
  simp only
  obtain ⟨g1, g2, g3, g4⟩ := lstO_facts cs 9 [lamN] [] (by simp)
  rw [List.map_nil, List.nil_append] at g4
  have g30 := g3 0 (by simp)
  obtain ⟨R, hR⟩ : ∃ R, rowO cs 9 [lamN] = R := ⟨_, rfl⟩
  obtain ⟨L, hL⟩ : ∃ L, lstO cs 9 [lamN] [] = L := ⟨_, rfl⟩
  obtain ⟨q, hq⟩ : ∃ q : Int, ((posO cs 9 + 1 + 1 : Nat) : Int) = q := ⟨_, rfl⟩
  unfold finO
  rw [hR, hL, hq]
  rw [hR, hL] at g1 g4
  rw [hR] at g2 g30
  obtain ⟨M, hM⟩ : ∃ M : List Nd, [⟨4, 8, 0, emp, L⟩, ⟨1, q, 1, emp, []⟩, ⟨4, 0, 0, emp, [0, R.length, R.length + 1]⟩] = M := ⟨_, rfl⟩
  rw [hM]
  have x0 := ndAt_at (r := R) M 0
  have x1 := ndAt_at (r := R) M 1
  have x2 := ndAt_at (r := R) M 2
  rw [← hM, Nat.add_zero] at x0
  rw [← hM] at x1 x2
  have x0 : ndAt (R ++ M) R.length = ⟨4, 8, 0, emp, L⟩ := by rw [← hM]; exact x0
  have x1 : ndAt (R ++ M) (R.length + 1) = ⟨1, q, 1, emp, []⟩ := by rw [← hM]; exact x1
  have x2 : ndAt (R ++ M) (R.length + 1 + 1) = ⟨4, 0, 0, emp, [0, R.length, R.length + 1]⟩ := by rw [← hM]; exact x2
  have hR1 : 1 ≤ R.length := g2
  have xl : (ndAt (R ++ M) 0).s = nLambda := by rw [ndAt_app (by omega), g30]; rfl
  have hp : plan (R ++ M) (R.length + 1 + 1) true = lambdaP (R ++ M) 0 [R.length, R.length + 1] := by
    unfold plan
    rw [x2]
    simp only
    rw [if_neg (by decide), if_neg (by decide), if_neg (by decide)]
    unfold listP
    simp only
    rw [if_neg (by simp)]
    simp only [List.getD_cons_zero, List.drop_succ_cons, List.drop_zero]
    rw [xl, if_pos (by decide), shape_lambda, if_neg (by simp)]
  have hp2 : plan (R ++ M) (R.length + 1) false = .mk (frm 1 q 1) [] := by
    unfold plan
    rw [x1]
    simp only
    rw [if_pos trivial]
  have hn : namesOf (R ++ M) (ndAt (R ++ M) R.length).l = if okO cs = true then some (cs.map nmB) else none := by
    rw [x0]
    unfold namesOf
    rw [namesG_S']
    simp only
    rw [List.map_congr_left (fun i hi => by rw [ndAt_app (g1 i hi)] : ∀ i ∈ L, (ndAt (R ++ M) i).s = (ndAt R i).s), g4, namesS_O cs [] h (by simp; omega) (by simp)]
    unfold okO
    simp
  have hlen : ∃ f, 16 * (R ++ M).length = f + 1 + 1 := ⟨16 * (R ++ M).length - 2, by rw [List.length_append]; omega⟩
  obtain ⟨f, hf⟩ := hlen
  unfold EX.expand runTops
  rw [hf]
  by_cases ho : okO cs = true
  · rw [if_pos ho] at hn ⊢
    rw [run_lam (f := f) (st := []) hp hn (by rw [x0]) hp2]
    simp only
    unfold runTops
    rfl
  · rw [if_neg ho] at hn ⊢
    rw [run_lamBad (f := f + 1) (st := []) hp hn]
end EW
end Go.Proofs.Ytpbfgfadickgbaa
