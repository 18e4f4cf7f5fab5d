/-
  P5.2's law of cuts. No condition.
-/
import Derived.Test.YtiebebbahbiloaaDoorLexLaws1
import Derived.Test.YtiebebbahbiloaaDoorLexFacts
namespace Go.Proofs.YtiebebbahbiloaaDoor
open Go.RowKit
namespace LX
theorem step_errne {c : UInt8} {r : List UInt8} {e : Int} (h : step (c :: r) = .err e) : (e == 0) = false := by
  have h50 : ((50 : Int) == 0) = false := rfl
  unfold step at h
  simp only at h
  split at h
  · cases h
  split at h
  · cases h
  split at h
  · cases h
  split at h
  · split at h
    · cases h
    split at h
    · cases h
    · cases h; rfl
  split at h
  · cases h; rfl
  unfold one at h
  split at h
  · split at h
    · cases h; rfl
    · cases h
  · split at h
    · cases h; rfl
    · split at h
      · cases h; rfl
      · cases h
theorem lexL_errne : ∀ (n : Nat) (l : List UInt8) (p : Nat) (out : List Tk) (q : Nat) (e : Int), l.length ≤ n → lexL l p out = .error (q, e) → (e == 0) = false := by
  intro n
  induction n with
  | zero =>
    intro l p out q e h hl
    have : l = [] := List.eq_nil_of_length_eq_zero (by omega)
    subst this
    cases hl
  | succ n ih =>
    intro l p out q e h hl
    cases l with
    | nil => cases hl
    | cons c r =>
      rw [lexL_step] at hl
      simp only [List.length_cons] at h
      cases hs : step (c :: r) with
      | err e => rw [hs] at hl; cases hl; exact step_errne hs
      | skip k =>
        obtain ⟨h1, h2⟩ := adv_le hs (by intro e he; cases he)
        simp only [adv] at h1 h2
        rw [hs] at hl
        exact ih _ _ _ _ _ (by rw [List.length_drop, List.length_cons]; omega) hl
      | tok kd n s k =>
        obtain ⟨h1, h2⟩ := adv_le hs (by intro e he; cases he)
        simp only [adv] at h1 h2
        rw [hs] at hl
        exact ih _ _ _ _ _ (by rw [List.length_drop, List.length_cons]; omega) hl
theorem lex_errne {s : ByteArray} {p : Nat} {e : Int} (h : lex s = .error (p, e)) : (e == 0) = false := by
  unfold lex at h
  split at h
  · cases h; rfl
  · exact lexL_errne _ _ _ _ _ _ (Nat.le_refl _) h
theorem bts_extract (s : ByteArray) (i : Nat) : bts (s.extract 0 i) = (bts s).take i := by
  unfold bts
  rw [Lib.extract_data]
  simp
theorem size_bts (s : ByteArray) : (bts s).length = s.size := by unfold bts; rw [Array.length_toList]; rfl
theorem lex_small {s : ByteArray} (h : s.size ≤ 4000) : lex s = lexL (bts s) 0 [] := by unfold lex; rw [if_neg (by omega)]
theorem cut_facts (s : ByteArray) (i : Nat) (hi : i ≤ s.size) (hs : s.size ≤ 500) (hc : i = s.size ∨ ∃ x b, (bts s).drop i = x :: b ∧ (x = 32 ∨ x = 10)) :
    (∃ p e, lex (s.extract 0 i) = .error (p, e) ∧ lex s = .error (p, e)) ∨ ∃ t1, lex (s.extract 0 i) = .ok t1 ∧ ((∃ p e, lex s = .error (p, e)) ∨ ∃ more, lex s = .ok (t1 ++ more) ∧ ∀ t ∈ more, (i : Int) ≤ t.at_) := by
  have hl : (bts (s.extract 0 i)).length = i := by rw [bts_extract, List.length_take, size_bts]; omega
  have h1 : lex (s.extract 0 i) = lexL ((bts s).take i) 0 [] := by
    rw [lex_small (by rw [← size_bts, hl]; omega), bts_extract]
  have h2 : lex s = lexL (bts s) 0 [] := lex_small (by omega)
  rw [h1, h2]
  have hlt : ((bts s).take i).length = i := by rw [List.length_take, size_bts]; omega
  rcases hc with hc | ⟨x, b, hd, hx⟩
  · rw [List.take_of_length_le (by rw [size_bts]; omega)]
    cases lexL (bts s) 0 [] with
    | error pe => exact .inl ⟨pe.1, pe.2, rfl, rfl⟩
    | ok ts => exact .inr ⟨ts, rfl, .inr ⟨[], by simp, by simp⟩⟩
  · have e : bts s = (bts s).take i ++ x :: b := by rw [← hd, List.take_append_drop]
    have := lexL_cut b x hx _ ((bts s).take i) 0 [] (Nat.le_refl _)
    rw [← e] at this
    cases h3 : lexL ((bts s).take i) 0 [] with
    | error pe => rw [h3] at this; exact .inl ⟨pe.1, pe.2, rfl, this⟩
    | ok ts =>
      rw [h3] at this
      obtain ⟨l, q, h4, h5⟩ := this
      refine .inr ⟨ts, rfl, ?_⟩
      rw [h4]
      cases h6 : lexL l q ts with
      | error pe => exact .inl ⟨pe.1, pe.2, rfl⟩
      | ok t2 =>
        obtain ⟨more, h7, h8⟩ := lexL_more _ _ _ _ _ (Nat.le_refl _) h6
        exact .inr ⟨more, by rw [h7], fun t ht => by have := h8 t ht; omega⟩
end LX
namespace LW
open LX
theorem ne_no {c d : UInt8} {n : Int} (h : c ≠ d) (e : (d.toNat : Int) = n) : ((c.toNat : Int) != n) = true := by simp [bne, eq_no h e]
theorem ne_yes {c d : UInt8} {n : Int} (h : c = d) (e : (d.toNat : Int) = n) : ((c.toNat : Int) != n) = false := by simp [bne, eq_yes h e]
theorem nq_no {c d : UInt8} {n : Int} (h : c ≠ d) (e : (d.toNat : Int) = n) : ¬ ((c.toNat : Int) = n) := by
  have := eq_no h e
  rwa [beq_eq_false_iff_ne] at this
theorem TkRow.front {w : World} {A : Option Addr} {ts us : List Tk} (h : TkRow w A (ts ++ us)) : TkRow w A ts := by
  intro k hk
  have := h k (by rw [List.length_append]; omega)
  rwa [List.getElem_append_left hk] at this
theorem TkRow.mid {w : World} {A : Option Addr} {ts us : List Tk} {m : Tk} (h : TkRow w A (ts ++ m :: us)) (n : Nat) (hn : ts.length = n) : ∃ b o, A = some ⟨b, o, none⟩ ∧ b < w.heap.size ∧ w.cell? ⟨b, o + n * 4 + 1, none⟩ = some (.int .i64 m.at_) := by
  subst hn
  obtain ⟨b, o, e, hb, _, c1, _, _⟩ := h ts.length (by rw [List.length_append, List.length_cons]; omega)
  refine ⟨b, o, e, hb, ?_⟩
  rw [c1]
  simp
set_option maxHeartbeats 4000000 in
theorem cuts_any (s : ByteArray) (k : Nat) (hk : k ≤ 65535) (w : World) : Calls Tryd.prog 8 #[.string s, .int .u16 k] w fun e w' => e = .returned (.bool true) ∧ Below w.heap.size w w' := by
  have HS := Lib.hid shown_any
  by_cases h5 : 500 < s.size
  · go_enter Tryd.func8, Tryd.ntmps8
    go_wp2_with (go_at_call 9; refine (HS.out _).mono ?_; rintro e w1 ⟨rfl, hF1⟩)
    go_ret
    exact ⟨rfl, hF1.below_nil⟩
  · have hm : ((k : Int) % ((s.size : Int) + 1)) = ((k % (s.size + 1) : Nat) : Int) := rfl
    obtain ⟨i0, hi0⟩ : ∃ i0, i0 = k % (s.size + 1) := ⟨_, rfl⟩
    have hi1 : i0 ≤ s.size := by have := Nat.mod_lt k (show 0 < s.size + 1 by omega); omega
    rw [← hi0] at hm
    have HM := Lib.hid hm
    clear hm hi0
    go_enter Tryd.func8, Tryd.ntmps8
    go_wp2_with (go_at_call 9; refine (HS.out _).mono ?_; rintro e w1 ⟨rfl, hF1⟩)
    rw [HM.out]
    go_loop [6] (fun i => ∃ j : Nat, j ≤ s.size ∧ i = .int .i64 (j : Int)) (fun i => s.size - (intOf i).toNat)
    case atStart => exact ⟨i0, hi1, rfl⟩
    case round =>
      obtain ⟨i, hi, rfl⟩ := hrel
      clear hi1
      by_cases hstop : i = s.size ∨ ∃ x b, (bts s).drop i = x :: b ∧ (x = 32 ∨ x = 10)
      · have HC := Lib.hid (cut_facts s i hi (by omega) hstop)
        rcases hstop with hI | ⟨x, b, hd, hx⟩
        · have d0 : ¬ (i < s.size) := by omega
          clear hI
          have he1 : (s.extract 0 i).size = i := by rw [← size_bts, bts_extract, List.length_take, size_bts]; omega
          obtain ⟨y, hy⟩ : ∃ y, s.extract 0 i = y := ⟨_, rfl⟩
          have HY := Lib.hid hy
          rw [hy] at HC he1
          have H1 := Lib.hid (lex_q y (by omega))
          clear hy
          have H2 := Lib.hid (lex_q s (by omega))
          rcases HC.out with ⟨p, x, r1, r2⟩ | ⟨t1, r1, r2⟩
          · have de := lex_errne r2
            have de1 : ¬ (x = 0) := by rwa [beq_eq_false_iff_ne] at de
            have de2 : (x != 0) = true := by simp [bne, de]
            rw [r1] at H1
            rw [r2] at H2
            clear r1 r2 he1
            go_wp2_with (first
              | (rw [HY.out]; go_at_call 10; refine (H1.out _).mono ?_; rintro e w2 ⟨hF2, A1, c1, rfl, -⟩)
              | (go_at_call 10; refine (H2.out _).mono ?_; rintro e w3 ⟨hF3, A2, c2, rfl, -⟩))
            go_ret
            exact ⟨rfl, ((hF1.trans hF2 (by simp)).trans hF3 (by simp)).below_nil⟩
          · rw [r1] at H1
            have hl1 := (lex_len r1).1
            rw [he1] at hl1
            obtain ⟨n1, hn1⟩ : ∃ n, t1.length = n := ⟨_, rfl⟩
            have HN1 := Lib.hid hn1
            unfold LexQ at H1
            simp only [hn1] at H1
            rw [hn1] at hl1
            clear hn1 he1 r1
            rcases r2 with ⟨p, x, r2⟩ | ⟨more, r2, hmore⟩
            · have de := lex_errne r2
              have de1 : ¬ (x = 0) := by rwa [beq_eq_false_iff_ne] at de
              have de2 : (x != 0) = true := by simp [bne, de]
              rw [r2] at H2
              clear r2
              go_wp2_with (first
                | (rw [HY.out]; go_at_call 10; refine (H1.out _).mono ?_; rintro e w2 ⟨hF2, A1, c1, rfl, -⟩)
                | (go_at_call 10; refine (H2.out _).mono ?_; rintro e w3 ⟨hF3, A2, c2, rfl, -⟩))
              go_ret
              exact ⟨rfl, ((hF1.trans hF2 (by simp)).trans hF3 (by simp)).below_nil⟩
            · rw [r2] at H2
              cases more with
              | nil =>
                rw [List.append_nil] at H2
                unfold LexQ at H2
                simp only [HN1.out] at H2
                clear r2 hmore
                go_wp2_with (first
                  | (rw [HY.out]; go_at_call 10; refine (H1.out _).mono ?_; rintro e w2 ⟨hF2, A1, c1, rfl, -, -, -, hk4⟩; have HT1 := Lib.hid (TkRow.of_src hk4); clear hk4)
                  | (go_at_call 10; refine (H2.out _).mono ?_; rintro e w3 ⟨hF3, A2, c2, rfl, hk5, hk6, hk7, hk8⟩; have HK7 := Lib.hid hk7; clear hk7; have HT2 := Lib.hid (TkRow.of_src hk8); clear hk8)
                  | (go_at_call 12; refine (same_yes t1 n1 HN1.out (by omega) A1 _ c1 _ w3 (HT1.out.far hF3) HT2.out).mono ?_; rintro e w4 ⟨rfl, hF4⟩))
                go_ret
                exact ⟨rfl, (((hF1.trans hF2 (by simp)).trans hF3 (by simp)).trans hF4 (by simp)).below_nil⟩
              | cons m ms =>
                have hmi : (i : Int) ≤ m.at_ := hmore m (List.mem_cons_self ..)
                obtain ⟨n2, hn2⟩ : ∃ n, (t1 ++ m :: ms).length = n := ⟨_, rfl⟩
                have hn12 : n1 < n2 := by rw [← hn2, List.length_append, HN1.out, List.length_cons]; omega
                have hn25 : n2 ≤ 500 := by have := (lex_len r2).1; omega
                unfold LexQ at H2
                simp only [hn2] at H2
                obtain ⟨ma, hma⟩ : ∃ ma, m.at_ = ma := ⟨_, rfl⟩
                rw [hma] at hmi
                have HMA := Lib.hid hma
                clear r2 hmore hn2 hma
                go_wp2_with (first
                  | (rw [HY.out]; go_at_call 10; refine (H1.out _).mono ?_; rintro e w2 ⟨hF2, A1, c1, rfl, -, -, -, hk4⟩; have HT1 := Lib.hid (TkRow.of_src hk4); clear hk4)
                  | (go_at_call 10; refine (H2.out _).mono ?_; rintro e w3 ⟨hF3, A2, c2, rfl, hk5, hk6, -, hk8⟩; obtain ⟨b, o, rfl, hb, hcell⟩ := (TkRow.of_src hk8).mid n1 HN1.out; rw [HMA.out] at hcell; have HT2 := Lib.hid (TkRow.of_src hk8).front; clear hk8)
                  | (go_at_call 12; refine (same_yes t1 n1 HN1.out (by omega) A1 _ c1 _ w3 (HT1.out.far hF3) HT2.out).mono ?_; rintro e w4 ⟨rfl, hF4⟩; have hcell4 := (hF4.cell (p := ⟨b, _, none⟩) hb (by simp)).trans hcell))
                go_ret
                exact ⟨rfl, (((hF1.trans hF2 (by simp)).trans hF3 (by simp)).trans hF4 (by simp)).below_nil⟩
        · have hlt : i < s.size := by
            have := congrArg List.length hd
            rw [List.length_drop, size_bts] at this
            simp at this; omega
          rw [drop_cons s i hlt] at hd
          injection hd with hd1 hd2
          by_cases hx3 : x = 32
          · have d1 := ne_yes (hd1.trans hx3) (n := 32) rfl
            have f1 : ((s[i]).toNat : Int) = 32 := by rw [hd1, hx3]; rfl
            clear hd1 hd2 hx hx3
            have he1 : (s.extract 0 i).size = i := by rw [← size_bts, bts_extract, List.length_take, size_bts]; omega
            obtain ⟨y, hy⟩ : ∃ y, s.extract 0 i = y := ⟨_, rfl⟩
            have HY := Lib.hid hy
            rw [hy] at HC he1
            have H1 := Lib.hid (lex_q y (by omega))
            clear hy
            have H2 := Lib.hid (lex_q s (by omega))
            rcases HC.out with ⟨p, x, r1, r2⟩ | ⟨t1, r1, r2⟩
            · have de := lex_errne r2
              have de1 : ¬ (x = 0) := by rwa [beq_eq_false_iff_ne] at de
              have de2 : (x != 0) = true := by simp [bne, de]
              rw [r1] at H1
              rw [r2] at H2
              clear r1 r2 he1
              go_wp2_with (first
                | (rw [HY.out]; go_at_call 10; refine (H1.out _).mono ?_; rintro e w2 ⟨hF2, A1, c1, rfl, -⟩)
                | (go_at_call 10; refine (H2.out _).mono ?_; rintro e w3 ⟨hF3, A2, c2, rfl, -⟩))
              go_ret
              exact ⟨rfl, ((hF1.trans hF2 (by simp)).trans hF3 (by simp)).below_nil⟩
            · rw [r1] at H1
              have hl1 := (lex_len r1).1
              rw [he1] at hl1
              obtain ⟨n1, hn1⟩ : ∃ n, t1.length = n := ⟨_, rfl⟩
              have HN1 := Lib.hid hn1
              unfold LexQ at H1
              simp only [hn1] at H1
              rw [hn1] at hl1
              clear hn1 he1 r1
              rcases r2 with ⟨p, x, r2⟩ | ⟨more, r2, hmore⟩
              · have de := lex_errne r2
                have de1 : ¬ (x = 0) := by rwa [beq_eq_false_iff_ne] at de
                have de2 : (x != 0) = true := by simp [bne, de]
                rw [r2] at H2
                clear r2
                go_wp2_with (first
                  | (rw [HY.out]; go_at_call 10; refine (H1.out _).mono ?_; rintro e w2 ⟨hF2, A1, c1, rfl, -⟩)
                  | (go_at_call 10; refine (H2.out _).mono ?_; rintro e w3 ⟨hF3, A2, c2, rfl, -⟩))
                go_ret
                exact ⟨rfl, ((hF1.trans hF2 (by simp)).trans hF3 (by simp)).below_nil⟩
              · rw [r2] at H2
                cases more with
                | nil =>
                  rw [List.append_nil] at H2
                  unfold LexQ at H2
                  simp only [HN1.out] at H2
                  clear r2 hmore
                  go_wp2_with (first
                    | (rw [HY.out]; go_at_call 10; refine (H1.out _).mono ?_; rintro e w2 ⟨hF2, A1, c1, rfl, -, -, -, hk4⟩; have HT1 := Lib.hid (TkRow.of_src hk4); clear hk4)
                    | (go_at_call 10; refine (H2.out _).mono ?_; rintro e w3 ⟨hF3, A2, c2, rfl, hk5, hk6, hk7, hk8⟩; have HK7 := Lib.hid hk7; clear hk7; have HT2 := Lib.hid (TkRow.of_src hk8); clear hk8)
                    | (go_at_call 12; refine (same_yes t1 n1 HN1.out (by omega) A1 _ c1 _ w3 (HT1.out.far hF3) HT2.out).mono ?_; rintro e w4 ⟨rfl, hF4⟩))
                  go_ret
                  exact ⟨rfl, (((hF1.trans hF2 (by simp)).trans hF3 (by simp)).trans hF4 (by simp)).below_nil⟩
                | cons m ms =>
                  have hmi : (i : Int) ≤ m.at_ := hmore m (List.mem_cons_self ..)
                  obtain ⟨n2, hn2⟩ : ∃ n, (t1 ++ m :: ms).length = n := ⟨_, rfl⟩
                  have hn12 : n1 < n2 := by rw [← hn2, List.length_append, HN1.out, List.length_cons]; omega
                  have hn25 : n2 ≤ 500 := by have := (lex_len r2).1; omega
                  unfold LexQ at H2
                  simp only [hn2] at H2
                  obtain ⟨ma, hma⟩ : ∃ ma, m.at_ = ma := ⟨_, rfl⟩
                  rw [hma] at hmi
                  have HMA := Lib.hid hma
                  clear r2 hmore hn2 hma
                  go_wp2_with (first
                    | (rw [HY.out]; go_at_call 10; refine (H1.out _).mono ?_; rintro e w2 ⟨hF2, A1, c1, rfl, -, -, -, hk4⟩; have HT1 := Lib.hid (TkRow.of_src hk4); clear hk4)
                    | (go_at_call 10; refine (H2.out _).mono ?_; rintro e w3 ⟨hF3, A2, c2, rfl, hk5, hk6, -, hk8⟩; obtain ⟨b, o, rfl, hb, hcell⟩ := (TkRow.of_src hk8).mid n1 HN1.out; rw [HMA.out] at hcell; have HT2 := Lib.hid (TkRow.of_src hk8).front; clear hk8)
                    | (go_at_call 12; refine (same_yes t1 n1 HN1.out (by omega) A1 _ c1 _ w3 (HT1.out.far hF3) HT2.out).mono ?_; rintro e w4 ⟨rfl, hF4⟩; have hcell4 := (hF4.cell (p := ⟨b, _, none⟩) hb (by simp)).trans hcell))
                  go_ret
                  exact ⟨rfl, (((hF1.trans hF2 (by simp)).trans hF3 (by simp)).trans hF4 (by simp)).below_nil⟩
          · have d1 : (((s[i]).toNat : Int) != 32) = true := ne_no (d := 32) (by rw [hd1]; exact hx3) rfl
            have f1 : ¬ (((s[i]).toNat : Int) = 32) := nq_no (d := 32) (by rw [hd1]; exact hx3) rfl
            have d2 : (((s[i]).toNat : Int) != 10) = false := ne_yes (d := 10) (hd1.trans (hx.resolve_left hx3)) rfl
            have f2 : ((s[i]).toNat : Int) = 10 := by rw [hd1, hx.resolve_left hx3]; rfl
            clear hd1 hd2 hx hx3
            have he1 : (s.extract 0 i).size = i := by rw [← size_bts, bts_extract, List.length_take, size_bts]; omega
            obtain ⟨y, hy⟩ : ∃ y, s.extract 0 i = y := ⟨_, rfl⟩
            have HY := Lib.hid hy
            rw [hy] at HC he1
            have H1 := Lib.hid (lex_q y (by omega))
            clear hy
            have H2 := Lib.hid (lex_q s (by omega))
            rcases HC.out with ⟨p, x, r1, r2⟩ | ⟨t1, r1, r2⟩
            · have de := lex_errne r2
              have de1 : ¬ (x = 0) := by rwa [beq_eq_false_iff_ne] at de
              have de2 : (x != 0) = true := by simp [bne, de]
              rw [r1] at H1
              rw [r2] at H2
              clear r1 r2 he1
              go_wp2_with (first
                | (rw [HY.out]; go_at_call 10; refine (H1.out _).mono ?_; rintro e w2 ⟨hF2, A1, c1, rfl, -⟩)
                | (go_at_call 10; refine (H2.out _).mono ?_; rintro e w3 ⟨hF3, A2, c2, rfl, -⟩))
              go_ret
              exact ⟨rfl, ((hF1.trans hF2 (by simp)).trans hF3 (by simp)).below_nil⟩
            · rw [r1] at H1
              have hl1 := (lex_len r1).1
              rw [he1] at hl1
              obtain ⟨n1, hn1⟩ : ∃ n, t1.length = n := ⟨_, rfl⟩
              have HN1 := Lib.hid hn1
              unfold LexQ at H1
              simp only [hn1] at H1
              rw [hn1] at hl1
              clear hn1 he1 r1
              rcases r2 with ⟨p, x, r2⟩ | ⟨more, r2, hmore⟩
              · have de := lex_errne r2
                have de1 : ¬ (x = 0) := by rwa [beq_eq_false_iff_ne] at de
                have de2 : (x != 0) = true := by simp [bne, de]
                rw [r2] at H2
                clear r2
                go_wp2_with (first
                  | (rw [HY.out]; go_at_call 10; refine (H1.out _).mono ?_; rintro e w2 ⟨hF2, A1, c1, rfl, -⟩)
                  | (go_at_call 10; refine (H2.out _).mono ?_; rintro e w3 ⟨hF3, A2, c2, rfl, -⟩))
                go_ret
                exact ⟨rfl, ((hF1.trans hF2 (by simp)).trans hF3 (by simp)).below_nil⟩
              · rw [r2] at H2
                cases more with
                | nil =>
                  rw [List.append_nil] at H2
                  unfold LexQ at H2
                  simp only [HN1.out] at H2
                  clear r2 hmore
                  go_wp2_with (first
                    | (rw [HY.out]; go_at_call 10; refine (H1.out _).mono ?_; rintro e w2 ⟨hF2, A1, c1, rfl, -, -, -, hk4⟩; have HT1 := Lib.hid (TkRow.of_src hk4); clear hk4)
                    | (go_at_call 10; refine (H2.out _).mono ?_; rintro e w3 ⟨hF3, A2, c2, rfl, hk5, hk6, hk7, hk8⟩; have HK7 := Lib.hid hk7; clear hk7; have HT2 := Lib.hid (TkRow.of_src hk8); clear hk8)
                    | (go_at_call 12; refine (same_yes t1 n1 HN1.out (by omega) A1 _ c1 _ w3 (HT1.out.far hF3) HT2.out).mono ?_; rintro e w4 ⟨rfl, hF4⟩))
                  go_ret
                  exact ⟨rfl, (((hF1.trans hF2 (by simp)).trans hF3 (by simp)).trans hF4 (by simp)).below_nil⟩
                | cons m ms =>
                  have hmi : (i : Int) ≤ m.at_ := hmore m (List.mem_cons_self ..)
                  obtain ⟨n2, hn2⟩ : ∃ n, (t1 ++ m :: ms).length = n := ⟨_, rfl⟩
                  have hn12 : n1 < n2 := by rw [← hn2, List.length_append, HN1.out, List.length_cons]; omega
                  have hn25 : n2 ≤ 500 := by have := (lex_len r2).1; omega
                  unfold LexQ at H2
                  simp only [hn2] at H2
                  obtain ⟨ma, hma⟩ : ∃ ma, m.at_ = ma := ⟨_, rfl⟩
                  rw [hma] at hmi
                  have HMA := Lib.hid hma
                  clear r2 hmore hn2 hma
                  go_wp2_with (first
                    | (rw [HY.out]; go_at_call 10; refine (H1.out _).mono ?_; rintro e w2 ⟨hF2, A1, c1, rfl, -, -, -, hk4⟩; have HT1 := Lib.hid (TkRow.of_src hk4); clear hk4)
                    | (go_at_call 10; refine (H2.out _).mono ?_; rintro e w3 ⟨hF3, A2, c2, rfl, hk5, hk6, -, hk8⟩; obtain ⟨b, o, rfl, hb, hcell⟩ := (TkRow.of_src hk8).mid n1 HN1.out; rw [HMA.out] at hcell; have HT2 := Lib.hid (TkRow.of_src hk8).front; clear hk8)
                    | (go_at_call 12; refine (same_yes t1 n1 HN1.out (by omega) A1 _ c1 _ w3 (HT1.out.far hF3) HT2.out).mono ?_; rintro e w4 ⟨rfl, hF4⟩; have hcell4 := (hF4.cell (p := ⟨b, _, none⟩) hb (by simp)).trans hcell))
                  go_ret
                  exact ⟨rfl, (((hF1.trans hF2 (by simp)).trans hF3 (by simp)).trans hF4 (by simp)).below_nil⟩
      · have hlt : i < s.size := by
          by_cases h : i = s.size
          · exact absurd (.inl h) hstop
          · omega
        have hno : s[i] ≠ 32 ∧ s[i] ≠ 10 := by
          rw [drop_cons s i hlt] at hstop
          constructor <;> intro h <;> exact hstop (.inr ⟨_, _, rfl, by simp [h]⟩)
        have d1 := ne_no hno.1 (n := 32) rfl
        have d2 := ne_no hno.2 (n := 10) rfl
        have f1 := nq_no hno.1 (n := 32) rfl
        have f2 := nq_no hno.2 (n := 10) rfl
        clear hno hstop
        go_wp2
        go_round
        case rel => exact ⟨i + 1, by omega, by go_num⟩
        case measure => simp [intOf]; omega
theorem cuts_to (s : ByteArray) (k : Int) (w : World) (hk : (Lit.int .u16 k).wf = true) : Calls Tryd.prog 8 #[.string s, .int .u16 k] w fun e w' => e = .returned (.bool true) ∧ Below w.heap.size w w' := by
  have h1 : 0 ≤ k ∧ k ≤ 65535 := by simp [Lit.wf, IntKind.min, IntKind.max, IntKind.signed, IntKind.bits] at hk; omega
  obtain ⟨m, rfl⟩ := Int.eq_ofNat_of_zero_le h1.1
  exact cuts_any s m (by omega) w
end LW
end Go.Proofs.YtiebebbahbiloaaDoor
