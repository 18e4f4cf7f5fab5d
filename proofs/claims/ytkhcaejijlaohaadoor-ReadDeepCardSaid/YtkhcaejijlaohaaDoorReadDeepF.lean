/-
  P6.3 in plain words: quotes and brackets that are open, a name, brackets that close. No condition but sizes.
-/
import Derived.Test.YtkhcaejijlaohaaDoorReadFacts
namespace Go.Proofs.YtkhcaejijlaohaaDoor
namespace RX
open LX
/-- A row of the same mark. -/
def marks (kd : Int) (p : Nat) : Nat → List Tk
  | 0 => []
  | n + 1 => ⟨kd, p, 0, emp⟩ :: marks kd (p + 1) n
theorem lex_marks {c : UInt8} (hc : LX.mark c ≠ 0) (hb : LX.blank c = false) (h59 : c ≠ 59) : ∀ (n : Nat) (l : List UInt8) (p : Nat) (out : List Tk), lexL (List.replicate n c ++ l) p out = lexL l (p + n) (out ++ marks (LX.mark c) p n) := by
  intro n
  induction n with
  | zero => intro l p out; simp [marks]
  | succ n ih =>
    intro l p out
    rw [List.replicate_succ, List.cons_append, lexL_step, step_mark hb h59 hc]
    simp only [List.drop_succ_cons, List.drop_zero]
    rw [ih, show p + 1 + n = p + (n + 1) from by omega]
    simp [marks]
/-- The top m of what is open are brackets, and below them q quotes. -/
def Sh : Nat → Nat → List Pt → Prop
  | 0, 0, ps => ps = []
  | q + 1, 0, ps => ∃ p ps', ps = p :: ps' ∧ p.q = true ∧ p.l.length = 1 ∧ Sh q 0 ps'
  | q, m + 1, ps => ∃ p ps', ps = p :: ps' ∧ p.q = false ∧ Sh q m ps'
theorem sh_zero {ps : List Pt} : Sh 0 0 ps ↔ ps = [] := by simp [Sh]
theorem sh_quote {q : Nat} {ps : List Pt} : Sh (q + 1) 0 ps ↔ ∃ p ps', ps = p :: ps' ∧ p.q = true ∧ p.l.length = 1 ∧ Sh q 0 ps' := by simp [Sh]
theorem sh_open {q m : Nat} {ps : List Pt} : Sh q (m + 1) ps ↔ ∃ p ps', ps = p :: ps' ∧ p.q = false ∧ Sh q m ps' := by cases q <;> simp [Sh]
theorem sh_len : ∀ (m q : Nat) (ps : List Pt), Sh q m ps → ps.length = q + m := by
  intro m
  induction m with
  | zero =>
    intro q
    induction q with
    | zero => intro ps h; rw [sh_zero] at h; subst h; rfl
    | succ q ih =>
      intro ps h
      obtain ⟨p, ps', rfl, _, _, h⟩ := sh_quote.1 h
      have := ih ps' h
      simp; omega
  | succ m ih =>
    intro q ps h
    obtain ⟨p, ps', rfl, _, h⟩ := sh_open.1 h
    have := ih q ps' h
    simp; omega
theorem putO_quotes : ∀ (q : Nat) (ps : List Pt) (row : List Nd) (tops : List Nat) (x : Nd), Sh q 0 ps → (putO ps row tops x).row.length = row.length + 1 + q ∧ (putO ps row tops x).tops.length = tops.length + 1 ∧ (putO ps row tops x).op = [] := by
  intro q
  induction q with
  | zero => intro ps row tops x h; rw [sh_zero] at h; subst h; simp [putO]
  | succ q ih =>
    intro ps row tops x h
    obtain ⟨p, ps', rfl, h1, h2, h3⟩ := sh_quote.1 h
    unfold putO
    rw [if_pos ⟨h1, by omega⟩]
    obtain ⟨g1, g2, g3⟩ := ih ps' (row ++ [x]) tops ⟨4, p.at_, 0, emp, p.l ++ [row.length]⟩ h3
    refine ⟨?_, g2, g3⟩
    rw [g1]; simp; omega
theorem putO_open {q m : Nat} {ps : List Pt} (row : List Nd) (tops : List Nat) (x : Nd) (h : Sh q (m + 1) ps) : (putO ps row tops x).row.length = row.length + 1 ∧ (putO ps row tops x).tops = tops ∧ Sh q (m + 1) (putO ps row tops x).op := by
  obtain ⟨p, ps', rfl, h1, h2⟩ := sh_open.1 h
  unfold putO
  rw [if_neg (by rw [h1]; simp)]
  exact ⟨by simp, rfl, sh_open.2 ⟨_, _, rfl, h1, h2⟩⟩
/-- Quotes. -/
theorem quotes_in : ∀ (n p : Nat) (r : Rd) (ts : List Tk) (q : Nat), Sh q 0 r.op → (q = 0 ∨ ∃ z zs, r.op = z :: zs ∧ z.at_ = (p : Int) - 1) →
    (q + n ≤ 50 → ∃ r', tokens (marks 3 p n ++ ts) r = tokens ts r' ∧ Sh (q + n) 0 r'.op ∧ r'.row.length = r.row.length + n ∧ r'.tops = r.tops ∧ (q + n = 0 ∨ ∃ z zs, r'.op = z :: zs ∧ z.at_ = ((p + n : Nat) : Int) - 1)) ∧
    (50 < q + n → q ≤ 50 → tokens (marks 3 p n ++ ts) r = .error (((p + (50 - q) : Nat) : Int), 62)) := by
  intro n
  induction n with
  | zero =>
    intro p r ts q h ha
    refine ⟨fun _ => ⟨r, rfl, h, rfl, rfl, ha⟩, fun h1 h2 => by omega⟩
  | succ n ih =>
    intro p r ts q h ha
    have hl := sh_len 0 q r.op h
    have etk : tokens (marks 3 p (n + 1) ++ ts) r = match token r ⟨3, p, 0, emp⟩ with | .error e => .error ((p : Int), e) | .ok r => tokens (marks 3 (p + 1) n ++ ts) r := rfl
    by_cases h50 : q = 50
    · subst h50
      refine ⟨fun h1 => by omega, fun _ _ => ?_⟩
      rw [etk]
      have : token r ⟨3, p, 0, emp⟩ = .error 62 := by unfold token; simp; omega
      rw [this]
      simp
    · by_cases h51 : q < 50
      · have e : token r ⟨3, p, 0, emp⟩ = .ok ⟨r.row ++ [⟨3, p, 0, quoteB, []⟩], r.tops, ⟨p, true, [r.row.length]⟩ :: r.op⟩ := by
          unfold token put
          simp [putO]
          omega
        have hs : Sh (q + 1) 0 (⟨p, true, [r.row.length]⟩ :: r.op) := sh_quote.2 ⟨_, _, rfl, rfl, rfl, h⟩
        obtain ⟨g1, g2⟩ := ih (p + 1) ⟨r.row ++ [⟨3, p, 0, quoteB, []⟩], r.tops, ⟨p, true, [r.row.length]⟩ :: r.op⟩ ts (q + 1) hs (.inr ⟨_, _, rfl, by simp⟩)
        rw [etk, e]
        refine ⟨fun h1 => ?_, fun h1 h2 => ?_⟩
        · obtain ⟨r', k1, k2, k3, k4, k5⟩ := g1 (by omega)
          refine ⟨r', k1, by rw [show q + (n + 1) = q + 1 + n by omega]; exact k2, by rw [k3]; simp; omega, k4, ?_⟩
          rw [show p + (n + 1) = p + 1 + n by omega, show q + (n + 1) = q + 1 + n by omega]; exact k5
        · have := g2 (by omega) (by omega)
          simp only []
          rw [this, show p + 1 + (50 - (q + 1)) = p + (50 - q) by omega]
      · exact ⟨fun h1 => by omega, fun _ h2 => by omega⟩
/-- Brackets that open. -/
theorem opens_in : ∀ (n p : Nat) (r : Rd) (ts : List Tk) (q m : Nat), Sh q m r.op → (q + m = 0 ∨ ∃ z zs, r.op = z :: zs ∧ z.at_ = (p : Int) - 1) →
    (q + m + n ≤ 50 → ∃ r', tokens (marks 1 p n ++ ts) r = tokens ts r' ∧ Sh q (m + n) r'.op ∧ r'.row.length = r.row.length ∧ r'.tops = r.tops ∧ (q + m + n = 0 ∨ ∃ z zs, r'.op = z :: zs ∧ z.at_ = ((p + n : Nat) : Int) - 1)) ∧
    (50 < q + m + n → q + m ≤ 50 → tokens (marks 1 p n ++ ts) r = .error (((p + (50 - (q + m)) : Nat) : Int), 62)) := by
  intro n
  induction n with
  | zero =>
    intro p r ts q m h ha
    refine ⟨fun _ => ⟨r, rfl, h, rfl, rfl, ha⟩, fun h1 h2 => by omega⟩
  | succ n ih =>
    intro p r ts q m h ha
    have hl := sh_len m q r.op h
    have etk : tokens (marks 1 p (n + 1) ++ ts) r = match token r ⟨1, p, 0, emp⟩ with | .error e => .error ((p : Int), e) | .ok r => tokens (marks 1 (p + 1) n ++ ts) r := rfl
    by_cases h50 : q + m = 50
    · refine ⟨fun h1 => by omega, fun _ _ => ?_⟩
      rw [etk]
      have : token r ⟨1, p, 0, emp⟩ = .error 62 := by unfold token; simp; omega
      rw [this, h50]
      simp
    · by_cases h51 : q + m < 50
      · have e : token r ⟨1, p, 0, emp⟩ = .ok ⟨r.row, r.tops, ⟨p, false, []⟩ :: r.op⟩ := by
          unfold token
          simp
          omega
        have hs : Sh q (m + 1) (⟨p, false, []⟩ :: r.op) := sh_open.2 ⟨_, _, rfl, rfl, h⟩
        obtain ⟨g1, g2⟩ := ih (p + 1) ⟨r.row, r.tops, ⟨p, false, []⟩ :: r.op⟩ ts q (m + 1) hs (.inr ⟨_, _, rfl, by simp⟩)
        rw [etk, e]
        refine ⟨fun h1 => ?_, fun h1 h2 => ?_⟩
        · obtain ⟨r', k1, k2, k3, k4, k5⟩ := g1 (by omega)
          refine ⟨r', k1, by rw [show m + (n + 1) = m + 1 + n by omega]; exact k2, k3, k4, ?_⟩
          rw [show p + (n + 1) = p + 1 + n by omega, show q + m + (n + 1) = q + (m + 1) + n by omega]; exact k5
        · have := g2 (by omega) (by omega)
          simp only []
          rw [this, show p + 1 + (50 - (q + (m + 1))) = p + (50 - (q + m)) by omega]
      · exact ⟨fun h1 => by omega, fun _ h2 => by omega⟩
/-- Brackets that close. -/
theorem closes_in : ∀ (n p : Nat) (r : Rd) (q : Nat), 0 < n → Sh q n r.op → ∃ r', tokens (marks 2 p n) r = .ok r' ∧ r'.op = [] ∧ r'.row.length = r.row.length + n + q ∧ r'.tops.length = r.tops.length + 1 := by
  intro n
  induction n with
  | zero => intro p r q h0; omega
  | succ n ih =>
    intro p r q _ h
    obtain ⟨z, zs, hop, h1, h2⟩ := sh_open.1 h
    have etk : tokens (marks 2 p (n + 1)) r = match token r ⟨2, p, 0, emp⟩ with | .error e => .error ((p : Int), e) | .ok r => tokens (marks 2 (p + 1) n) r := rfl
    have e : token r ⟨2, p, 0, emp⟩ = .ok (putO zs r.row r.tops ⟨4, z.at_, 0, emp, z.l⟩) := by
      unfold token inQ close
      simp [hop, h1]
    rw [etk, e]
    simp only []
    cases n with
    | zero =>
      obtain ⟨g1, g2, g3⟩ := putO_quotes q zs r.row r.tops ⟨4, z.at_, 0, emp, z.l⟩ h2
      exact ⟨_, rfl, g3, by rw [g1], g2⟩
    | succ n =>
      obtain ⟨g1, g2, g3⟩ := putO_open r.row r.tops ⟨4, z.at_, 0, emp, z.l⟩ h2
      obtain ⟨r', k1, k2, k3, k4⟩ := ih (p + 1) _ q (by omega) g3
      exact ⟨r', k1, k2, by rw [k3, g1]; omega, by rw [k4, g2]⟩
def deepA (k q : Nat) : List UInt8 := List.replicate q 39 ++ List.replicate (k - q) 40
theorem deepA_len {k q : Nat} (h : q ≤ k) : (deepA k q).length = k := by simp [deepA]; omega
theorem marks_kinds {kd : Int} : ∀ (n p : Nat), ∀ t ∈ marks kd p n, t.kind = kd := by
  intro n
  induction n with
  | zero => intro p t ht; cases ht
  | succ n ih =>
    intro p t ht
    rcases List.mem_cons.1 ht with rfl | ht
    · rfl
    · exact ih _ _ ht
theorem lex_deepA (k q : Nat) (h : q ≤ k) (hk : k ≤ 60) : lex (str (deepA k q)) = .ok (marks 3 0 q ++ marks 1 q (k - q)) := by
  rw [lex_small (by rw [str_size, deepA_len h]; omega), bts_str]
  unfold deepA
  have e := lex_marks (c := 39) (by decide) (by decide) (by decide) q (List.replicate (k - q) 40) 0 []
  rw [e]
  have e2 := lex_marks (c := 40) (by decide) (by decide) (by decide) (k - q) [] (0 + q) ([] ++ marks (LX.mark 39) 0 q)
  rw [List.append_nil] at e2
  rw [e2, lexL_nil]
  simp [LX.mark]
/-- Up to where a name comes. -/
theorem deep_state (k q : Nat) (h : q ≤ k) (ts : List Tk) : (k ≤ 50 → ∃ r, tokens ((marks 3 0 q ++ marks 1 q (k - q)) ++ ts) ⟨[], [], []⟩ = tokens ts r ∧ Sh q (k - q) r.op ∧ r.row.length = q ∧ r.tops = [] ∧ (k = 0 ∨ ∃ z zs, r.op = z :: zs ∧ z.at_ = (k : Int) - 1)) ∧
    (50 < k → tokens ((marks 3 0 q ++ marks 1 q (k - q)) ++ ts) ⟨[], [], []⟩ = .error (50, 62)) := by
  obtain ⟨g1, g2⟩ := quotes_in q 0 ⟨[], [], []⟩ (marks 1 q (k - q) ++ ts) 0 (sh_zero.2 rfl) (.inl rfl)
  rw [List.append_assoc]
  rw [Nat.zero_add] at g1
  by_cases hq : q ≤ 50
  · obtain ⟨r1, k1, k2, k3, k4, k5⟩ := g1 hq
    obtain ⟨g3, g4⟩ := opens_in (k - q) q r1 ts q 0 k2 k5
    rw [k1]
    refine ⟨fun hk => ?_, fun hk => ?_⟩
    · obtain ⟨r2, m1, m2, m3, m4, m5⟩ := g3 (by omega)
      refine ⟨r2, m1, by rw [Nat.zero_add] at m2; exact m2, by rw [m3, k3]; simp, by rw [m4, k4], ?_⟩
      rw [show q + 0 + (k - q) = k by omega, show q + (k - q) = k by omega] at m5
      exact m5
    · have := g4 (by omega) (by omega)
      rw [this, show q + (50 - (q + 0)) = 50 by omega]
      rfl
  · refine ⟨fun hk => by omega, fun _ => ?_⟩
    have := g2 (by omega) (by omega)
    rw [this]
    rfl
theorem read_deepA (k q : Nat) (h : q ≤ k) (hk : k ≤ 60) : (50 < k → read (str (deepA k q)) = .error (50, 62)) ∧ (k = 0 → read (str (deepA k q)) = .ok ⟨[], [], []⟩) ∧
    (0 < k → k ≤ 50 → q = k → read (str (deepA k q)) = .error ((k : Int) - 1, 63)) ∧ (0 < k → k ≤ 50 → q < k → read (str (deepA k q)) = .error ((k : Int) - 1, 60)) := by
  have hr := read_fin (lex_deepA k q h hk)
  obtain ⟨g1, g2⟩ := deep_state k q h []
  rw [List.append_nil] at g1 g2
  rw [hr]
  refine ⟨fun hk => by rw [g2 hk]; rfl, fun hk => ?_, fun h0 h50 hqk => ?_, fun h0 h50 hqk => ?_⟩
  · subst hk
    have : q = 0 := by omega
    subst this
    rfl
  · obtain ⟨r, k1, k2, k3, k4, k5⟩ := g1 h50
    rw [k1]
    subst hqk
    rw [Nat.sub_self] at k2
    obtain ⟨q', rfl⟩ : ∃ q', q = q' + 1 := ⟨q - 1, by omega⟩
    obtain ⟨z, zs, e, h1, _⟩ := sh_quote.1 k2
    rcases k5 with k5 | ⟨z2, zs2, e2, h2⟩
    · omega
    · rw [e] at e2
      injection e2 with e3 e4
      subst e3
      simp [tokens, fin, endE, e, h1, h2]
  · obtain ⟨r, k1, k2, k3, k4, k5⟩ := g1 h50
    rw [k1]
    obtain ⟨m, hm⟩ : ∃ m, k - q = m + 1 := ⟨k - q - 1, by omega⟩
    rw [hm] at k2
    obtain ⟨z, zs, e, h1, _⟩ := sh_open.1 k2
    rcases k5 with k5 | ⟨z2, zs2, e2, h2⟩
    · omega
    · rw [e] at e2
      injection e2 with e3 e4
      subst e3
      simp [tokens, fin, endE, e, h1, h2]
def deepB (k q : Nat) : List UInt8 := deepA k q ++ 120 :: List.replicate (k - q) 41
theorem lex_deepB (k q : Nat) (h : q ≤ k) (hk : k ≤ 60) : lex (str (deepB k q)) = .ok ((marks 3 0 q ++ marks 1 q (k - q)) ++ ⟨6, k, 0, str [120]⟩ :: marks 2 (k + 1) (k - q)) := by
  have hlen : (deepB k q).length ≤ 200 := by unfold deepB; rw [List.length_append, deepA_len h]; simp; omega
  rw [lex_small (by rw [str_size]; omega), bts_str]
  unfold deepB deepA
  rw [List.append_assoc]
  have e := lex_marks (c := 39) (by decide) (by decide) (by decide) q (List.replicate (k - q) 40 ++ 120 :: List.replicate (k - q) 41) 0 []
  rw [e]
  have e2 := lex_marks (c := 40) (by decide) (by decide) (by decide) (k - q) (120 :: List.replicate (k - q) 41) (0 + q) ([] ++ marks (LX.mark 39) 0 q)
  rw [e2]
  have hw : word (120 :: List.replicate (k - q) 41) = [120] := by
    cases hkq : k - q with
    | zero => rfl
    | succ n => rw [List.replicate_succ]; rfl
  have hst : LX.step (120 :: List.replicate (k - q) 41) = .tok 6 0 (str [120]) 1 := by
    rw [step_one (by decide) (by decide) (by decide) (by decide) (by decide), hw]
    rfl
  rw [lexL_step, hst]
  simp only [List.drop_succ_cons, List.drop_zero]
  have e3 := lex_marks (c := 41) (by decide) (by decide) (by decide) (k - q) [] (0 + q + (k - q) + 1) ([] ++ marks (LX.mark 39) 0 q ++ marks (LX.mark 40) (0 + q) (k - q) ++ [⟨6, ((0 + q + (k - q) : Nat) : Int), 0, str [120]⟩])
  rw [List.append_nil] at e3
  rw [e3, lexL_nil]
  have e4 : 0 + q + (k - q) = k := by omega
  rw [e4]
  simp [LX.mark]
theorem read_deepB (k q : Nat) (h : q ≤ k) (hk : k ≤ 60) : (50 < k → read (str (deepB k q)) = .error (50, 62)) ∧ (k ≤ 50 → ∃ r, read (str (deepB k q)) = .ok r ∧ r.row.length = 1 + k + q ∧ r.tops.length = 1) := by
  have hr := read_fin (lex_deepB k q h hk)
  obtain ⟨g1, g2⟩ := deep_state k q h (⟨6, k, 0, str [120]⟩ :: marks 2 (k + 1) (k - q))
  rw [hr]
  refine ⟨fun hk => by rw [g2 hk]; rfl, fun h50 => ?_⟩
  obtain ⟨r, k1, k2, k3, k4, _⟩ := g1 h50
  rw [k1]
  have etk : tokens (⟨6, k, 0, str [120]⟩ :: marks 2 (k + 1) (k - q)) r = tokens (marks 2 (k + 1) (k - q)) (put r ⟨3, k, 0, str [120], []⟩) := rfl
  rw [etk]
  cases hm : k - q with
  | zero =>
    rw [hm] at k2
    obtain ⟨m1, m2, m3⟩ := putO_quotes q r.op r.row r.tops ⟨3, k, 0, str [120], []⟩ k2
    refine ⟨put r ⟨3, k, 0, str [120], []⟩, ?_, ?_, ?_⟩
    · simp [marks, tokens, fin, endE, put, m3]
    · unfold put; rw [m1, k3]; omega
    · unfold put; rw [m2, k4]; rfl
  | succ m =>
    rw [hm] at k2
    obtain ⟨m1, m2, m3⟩ := putO_open r.row r.tops ⟨3, k, 0, str [120], []⟩ k2
    obtain ⟨r', n1, n2, n3, n4⟩ := closes_in (m + 1) (k + 1) (put r ⟨3, k, 0, str [120], []⟩) q (by omega) m3
    rw [n1]
    refine ⟨r', by simp [fin, endE, n2], ?_, ?_⟩
    · rw [n3]; unfold put; rw [m1, k3]; omega
    · rw [n4]; unfold put; rw [m2, k4]; rfl
theorem read_deepC : read (str [120, 41]) = .error (1, 61) := by kernel_rfl
end RX
end Go.Proofs.YtkhcaejijlaohaaDoor
