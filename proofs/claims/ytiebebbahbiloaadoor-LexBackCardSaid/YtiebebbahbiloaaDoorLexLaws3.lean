/-
  P5.2's law of joined texts. No condition.
-/
import Derived.Test.YtiebebbahbiloaaDoorLexLaws2
namespace Go.Proofs.YtiebebbahbiloaaDoor
open Go.RowKit
namespace LX
theorem lexL_errpos : ∀ (n : Nat) (l : List UInt8) (p : Nat) (out : List Tk) (q : Nat) (e : Int), l.length ≤ n → lexL l p out = .error (q, e) → q ≤ p + l.length := by
  intro n
  induction n with
  | zero =>
    intro l p out q e h hl
    have : l = [] := List.eq_nil_of_length_eq_zero (by omega)
    subst this
    cases hl
  | succ n ih =>
    intro l p out q e h hl
    cases l with
    | nil => cases hl
    | cons c r =>
      rw [lexL_step] at hl
      simp only [List.length_cons] at h ⊢
      cases hs : step (c :: r) with
      | err e => rw [hs] at hl; cases hl; omega
      | skip k =>
        obtain ⟨h1, h2⟩ := adv_le hs (by intro e he; cases he)
        simp only [adv] at h1 h2
        rw [hs] at hl
        have := ih _ _ _ _ _ (by rw [List.length_drop, List.length_cons]; omega) hl
        rw [List.length_drop, List.length_cons] at this; omega
      | tok kd n s k =>
        obtain ⟨h1, h2⟩ := adv_le hs (by intro e he; cases he)
        simp only [adv] at h1 h2
        rw [hs] at hl
        have := ih _ _ _ _ _ (by rw [List.length_drop, List.length_cons]; omega) hl
        rw [List.length_drop, List.length_cons] at this; omega
theorem lexL_at : ∀ (n : Nat) (l : List UInt8) (p : Nat) (out ts : List Tk), l.length ≤ n → (∀ t ∈ out, 0 ≤ t.at_ ∧ t.at_ < p) → lexL l p out = .ok ts → ∀ t ∈ ts, 0 ≤ t.at_ ∧ t.at_ < (p + l.length : Nat) := by
  intro n
  induction n with
  | zero =>
    intro l p out ts h ho hl
    have : l = [] := List.eq_nil_of_length_eq_zero (by omega)
    subst this
    cases hl
    simpa using ho
  | succ n ih =>
    intro l p out ts h ho hl
    cases l with
    | nil => cases hl; simpa using ho
    | cons c r =>
      rw [lexL_step] at hl
      simp only [List.length_cons] at h ⊢
      cases hs : step (c :: r) with
      | err e => rw [hs] at hl; cases hl
      | skip k =>
        obtain ⟨h1, h2⟩ := adv_le hs (by intro e he; cases he)
        simp only [adv] at h1 h2
        rw [hs] at hl
        intro t ht
        have := ih _ _ _ _ (by rw [List.length_drop, List.length_cons]; omega) (fun t ht => by have := ho t ht; omega) hl t ht
        rw [List.length_drop, List.length_cons] at this; omega
      | tok kd n s k =>
        obtain ⟨h1, h2⟩ := adv_le hs (by intro e he; cases he)
        simp only [adv] at h1 h2
        rw [hs] at hl
        intro t ht
        have := ih _ _ _ _ (by rw [List.length_drop, List.length_cons]; omega) (fun t ht => by
          rcases List.mem_append.1 ht with ht | ht
          · have := ho t ht; omega
          · have : t = ⟨kd, p, n, s⟩ := by simpa using ht
            subst this
            exact ⟨by simp, by simp; omega⟩) hl t ht
        rw [List.length_drop, List.length_cons] at this; omega
theorem lex_at {s : ByteArray} {ts : List Tk} (h : lex s = .ok ts) : ∀ t ∈ ts, 0 ≤ t.at_ ∧ t.at_ < 4000 := by
  intro t ht
  have h2 := (lex_len h).2
  rw [lex_small h2] at h
  have := lexL_at _ _ _ _ _ (Nat.le_refl _) (by simp) h t ht
  rw [size_bts] at this; omega
theorem lex_errpos {s : ByteArray} {p : Nat} {e : Int} (h : lex s = .error (p, e)) : p ≤ s.size := by
  unfold lex at h
  split at h
  · cases h; omega
  · have := lexL_errpos _ _ _ _ _ _ (Nat.le_refl _) h
    rw [size_bts] at this; omega
theorem bts_append (a b : ByteArray) : bts (a ++ b) = bts a ++ bts b := by
  unfold bts
  rw [ByteArray.data_append, Array.toList_append]
theorem size_append (a b : ByteArray) : (a ++ b).size = a.size + b.size := by
  rw [← size_bts, bts_append, List.length_append, size_bts, size_bts]
theorem join_facts (a b y : ByteArray) (ha : a.size ≤ 500) (hb : b.size ≤ 500) (hy : a ++ ⟨#[10]⟩ ++ b = y) :
    (∀ p e, lex a = .error (p, e) → lex y = .error (p, e)) ∧
    (∀ ta, lex a = .ok ta → (∀ q e, lex b = .error (q, e) → lex y = .error (q + (a.size + 1), e)) ∧ ∀ tb, lex b = .ok tb → lex y = .ok (ta ++ tb.map (shiftT (a.size + 1)))) := by
  have hby : bts y = bts a ++ 10 :: bts b := by
    rw [← hy, bts_append, bts_append, List.append_assoc]; rfl
  have hys : y.size ≤ 4000 := by
    rw [← size_bts, hby, List.length_append, List.length_cons, size_bts, size_bts]; omega
  rw [lex_small (show a.size ≤ 4000 by omega), lex_small (show b.size ≤ 4000 by omega), lex_small hys, hby]
  rw [lexL_nl _ _ _ _ _ (Nat.le_refl _)]
  refine ⟨fun p e h => by rw [h], fun ta h => ?_⟩
  rw [h]
  have hsh := lexL_shift (a.size + 1) ta _ (bts b) 0 [] (Nat.le_refl _)
  rw [List.map_nil, List.append_nil] at hsh
  have e0 : 0 + (bts a).length + 1 = 0 + (a.size + 1) := by rw [size_bts]; omega
  simp only [e0, hsh]
  exact ⟨fun q e h2 => by rw [h2], fun tb h2 => by rw [h2]⟩
end LX
namespace LW
open LX
theorem tks_one (ts : List Tk) : ∀ u ∈ tks ts, u.oneCell' = true := by
  intro u hu
  unfold tks at hu
  obtain ⟨t, _, h⟩ := List.mem_flatMap.1 hu
  exact cellsT_one t u h
theorem call_at {s t : ByteArray} {w : World} {Q : Ending → World → Prop} (h : s = t) (H : Calls Tryd.prog 10 #[.string s] w Q) : Calls Tryd.prog 10 #[.string t] w Q := h ▸ H
set_option maxHeartbeats 4000000 in
set_option maxRecDepth 20000 in
theorem joins_any (a b : ByteArray) (w : World) : Calls Tryd.prog 6 #[.string a, .string b] w fun e w' => e = .returned (.bool true) ∧ Below w.heap.size w w' := by
  have HS := Lib.hid shown_any
  by_cases h5 : 500 < a.size
  · go_enter Tryd.func6, Tryd.ntmps6
    go_wp2_with (go_at_call 9; refine (HS.out _).mono ?_; rintro e w1 ⟨rfl, hF1⟩)
    go_ret
    exact ⟨rfl, hF1.below_nil⟩
  · by_cases h6 : 500 < b.size
    · go_enter Tryd.func6, Tryd.ntmps6
      go_wp2_with (go_at_call 9; refine (HS.out _).mono ?_; rintro e w1 ⟨rfl, hF1⟩)
      go_ret
      exact ⟨rfl, hF1.below_nil⟩
    · obtain ⟨y, hy⟩ : ∃ y, a ++ ⟨#[10]⟩ ++ b = y := ⟨_, rfl⟩
      have HJ := Lib.hid (join_facts a b y (by omega) (by omega) hy)
      have hys : y.size ≤ 1001 := by rw [← hy, size_append, size_append]; show a.size + 1 + b.size ≤ 1001; omega
      have HY := Lib.hid hy
      have H1 := Lib.hid (lex_q a (by omega))
      have H2 := Lib.hid (lex_q b (by omega))
      have H3 := Lib.hid (lex_q y (by omega))
      clear hy
      obtain ⟨Ra, hRa⟩ : ∃ R, LX.lex a = R := ⟨_, rfl⟩
      obtain ⟨Rb, hRb⟩ : ∃ R, LX.lex b = R := ⟨_, rfl⟩
      cases Ra with
      | error pe =>
        obtain ⟨p, x⟩ := pe
        have de := lex_errne hRa
        have de1 : ¬ (x = 0) := by rwa [beq_eq_false_iff_ne] at de
        have de2 : (x != 0) = true := by simp [bne, de]
        have hRy := HJ.out.1 p x hRa
        rw [hRa] at H1
        rw [hRy] at H3
        cases Rb with
        | error pe2 =>
          obtain ⟨q, z⟩ := pe2
          rw [hRb] at H2
          clear hRa hRb hRy
          go_enter Tryd.func6, Tryd.ntmps6
          go_wp2_with (first
            | (go_at_call 9; refine (HS.out _).mono ?_; rintro e w1 ⟨rfl, hF1⟩)
            | (go_at_call 10; refine Calls.mono (call_at (s := y) (by with_reducible exact HY.out.symm) (H3.out _)) ?_; rintro e w4 ⟨hF4, A3, c3, rfl, -⟩)
            | (go_at_call 10; refine Calls.mono (call_at (s := a) (by with_reducible rfl) (H1.out _)) ?_; rintro e w2 ⟨hF2, A1, c1, rfl, -⟩)
            | (go_at_call 10; refine Calls.mono (call_at (s := b) (by with_reducible rfl) (H2.out _)) ?_; rintro e w3 ⟨hF3, A2, c2, rfl, -⟩))
          go_ret
          exact ⟨rfl, (((hF1.trans hF2 (by simp)).trans hF3 (by simp)).trans hF4 (by simp)).below_nil⟩
        | ok tb =>
          rw [hRb] at H2
          obtain ⟨nb, hnb⟩ : ∃ n, tb.length = n := ⟨_, rfl⟩
          unfold LexQ at H2
          simp only [hnb] at H2
          clear hRa hRb hRy hnb
          go_enter Tryd.func6, Tryd.ntmps6
          go_wp2_with (first
            | (go_at_call 9; refine (HS.out _).mono ?_; rintro e w1 ⟨rfl, hF1⟩)
            | (go_at_call 10; refine Calls.mono (call_at (s := y) (by with_reducible exact HY.out.symm) (H3.out _)) ?_; rintro e w4 ⟨hF4, A3, c3, rfl, -⟩)
            | (go_at_call 10; refine Calls.mono (call_at (s := a) (by with_reducible rfl) (H1.out _)) ?_; rintro e w2 ⟨hF2, A1, c1, rfl, -⟩)
            | (go_at_call 10; refine Calls.mono (call_at (s := b) (by with_reducible rfl) (H2.out _)) ?_; rintro e w3 ⟨hF3, A2, c2, rfl, -, -, -, -⟩))
          go_ret
          exact ⟨rfl, (((hF1.trans hF2 (by simp)).trans hF3 (by simp)).trans hF4 (by simp)).below_nil⟩
      | ok ta =>
        have hRy := HJ.out.2 ta hRa
        have hla := (lex_len hRa).1
        rw [hRa] at H1
        obtain ⟨na, hna⟩ : ∃ n, ta.length = n := ⟨_, rfl⟩
        have HNA := Lib.hid hna
        rw [hna] at hla
        unfold LexQ at H1
        simp only [hna] at H1
        cases Rb with
        | error pe2 =>
          obtain ⟨q, x⟩ := pe2
          have de := lex_errne hRb
          have de1 : ¬ (x = 0) := by rwa [beq_eq_false_iff_ne] at de
          have de2 : (x != 0) = true := by simp [bne, de]
          have hRy2 := hRy.1 q x hRb
          have hq := lex_errpos hRb
          rw [hRb] at H2
          rw [hRy2] at H3
          have hpos : (((q + (a.size + 1) : Nat) : Int)) = (q : Int) + a.size + 1 := by omega
          unfold LexQ at H3
          simp only [hpos] at H3
          clear hRa hRb hRy hRy2 hna hpos
          go_enter Tryd.func6, Tryd.ntmps6
          go_wp2_with (first
            | (go_at_call 9; refine (HS.out _).mono ?_; rintro e w1 ⟨rfl, hF1⟩)
            | (go_at_call 10; refine Calls.mono (call_at (s := y) (by with_reducible exact HY.out.symm) (H3.out _)) ?_; rintro e w4 ⟨hF4, A3, c3, rfl, -⟩)
            | (go_at_call 10; refine Calls.mono (call_at (s := a) (by with_reducible rfl) (H1.out _)) ?_; rintro e w2 ⟨hF2, A1, c1, rfl, -, -, -, -⟩)
            | (go_at_call 10; refine Calls.mono (call_at (s := b) (by with_reducible rfl) (H2.out _)) ?_; rintro e w3 ⟨hF3, A2, c2, rfl, -⟩))
          go_ret
          exact ⟨rfl, (((hF1.trans hF2 (by simp)).trans hF3 (by simp)).trans hF4 (by simp)).below_nil⟩
        | ok tb =>
          have hRy2 := hRy.2 tb hRb
          have hlb := (lex_len hRb).1
          have HLT := Lib.hid (lex_at hRb)
          rw [hRb] at H2
          rw [hRy2] at H3
          obtain ⟨nb, hnb⟩ : ∃ n, tb.length = n := ⟨_, rfl⟩
          have HNB := Lib.hid hnb
          rw [hnb] at hlb
          obtain ⟨nn, hnn⟩ : ∃ n, (ta ++ tb.map (shiftT (a.size + 1))).length = n := ⟨_, rfl⟩
          have hnn2 : nn = na + nb := by rw [← hnn, List.length_append, List.length_map, hna, hnb]
          subst hnn2
          have HNN := Lib.hid hnn
          unfold LexQ at H2 H3
          simp only [hnb] at H2
          simp only [hnn] at H3
          clear hRa hRb hRy hRy2 hna hnb hnn
          go_enter Tryd.func6, Tryd.ntmps6
          go_wp2_with (first
            | (go_at_call 9; refine (HS.out _).mono ?_; rintro e w1 ⟨rfl, hF1⟩)
            | (go_at_call 10; refine Calls.mono (call_at (s := y) (by with_reducible exact HY.out.symm) (H3.out _)) ?_; rintro e w4 ⟨hF4, A3, c3, rfl, -, -, -, h4⟩; have HT3 := Lib.hid (TkRow.of_src h4); clear h4)
            | (go_at_call 10; refine Calls.mono (call_at (s := a) (by with_reducible rfl) (H1.out _)) ?_; rintro e w2 ⟨hF2, A1, c1, rfl, -, -, h3, h4⟩; have HC1 := Lib.hid h3; have HS1 := Lib.hid h4; clear h3 h4)
            | (go_at_call 10; refine Calls.mono (call_at (s := b) (by with_reducible rfl) (H2.out _)) ?_; rintro e w3 ⟨hF3, A2, c2, rfl, -, -, -, h4⟩; have HT2 := Lib.hid (TkRow.of_src h4); clear h4)
            | (refine MO.wpList_append w4 ?_ (.tmp 79) (.tmp 80) 23 ?_ w4.heap.size 30 (.agg #[.int .u8 0, .int .i64 0, .int .i64 0, .string ⟨#[]⟩]) 4 40 toks_slice tok_info rfl (by omega) (.slice none 0 0) 0 [] ?_ (MO.none_ _ _ _ _) A1 na c1 (tks ta) ?_ (by rw [tks_len, HNA.out]) (fun h => ⟨HC1.out h, by have := HS1.out; rcases Nat.eq_zero_or_pos na with h0 | h0; exact h0; exact absurd (this (by rw [tks_len, HNA.out]; omega)) (by rintro ⟨ad, e, _⟩; rw [h] at e; cases e)⟩) [] (HS1.out.far (hF3.trans hF4 (by simp)) (by simp)) (tks_one ta) (by simp only [maxLen]; omega) (by omega) (Nat.le_refl _) ?_
               · rfl
               · rfl
               · rfl
               · rfl
               intro v5 w5 hv5 hg5 hat5))
          have hF5 : MM.Far [] w4 w5 := MM.Far.of_grown (S := []) hg5 (fun b hb _ => by simp [Value.ownBlock] at hb)
          have HL5 : Hid (Lx w4 w5 v5 ta) := Lib.hid ⟨by rw [Nat.zero_add, List.nil_append] at hv5; rw [HNA.out]; exact hv5, hF5⟩
          clear hv5 hg5 hat5 hF5
          have HF := Lib.hid (((hF1.trans hF2 (by simp)).trans hF3 (by simp)).trans hF4 (by simp))
          have HT2' := Lib.hid (HT2.out.far hF4)
          clear hF1 hF2 hF3 hF4
          go_loopw [15, 84] (fun s15 s84 wr => ∃ (k : Nat) (v : Value), k ≤ nb ∧ v = s15 ∧ s84 = .int .i64 k ∧ Hid (Lx w4 wr v (ta ++ (tb.take k).map (shiftT (a.size + 1))))) (fun _ s84 _ => nb - (intOf s84).toNat)
          case atStart => exact ⟨0, _, by omega, rfl, rfl, by rw [List.take_zero, List.map_nil, List.append_nil]; exact HL5⟩
          case round =>
            obtain ⟨k, v, hk, rfl, rfl, hL⟩ := hrel
            by_cases hlt : k < nb
            · have hk2 : k < tb.length := by rw [HNB.out]; exact hlt
              obtain ⟨b2, o2, rfl, hb2, d0, d1, d2, d3⟩ := (HT2'.out.far hL.out.far) k hk2
              have hat := HLT.out _ (List.getElem_mem hk2)
              have HSN : Hid (tb.take (k + 1) = tb.take k ++ [tb[k]]) := Lib.hid (by rw [List.take_succ_eq_append_getElem hk2])
              have hlen : (ta ++ (tb.take k).map (shiftT (a.size + 1))).length ≤ 1000 := by rw [List.length_append, List.length_map, HNA.out, List.length_take]; omega
              have HLEN := Lib.hid hlen
              generalize tb[k] = t at *
              obtain ⟨kd, at_, nn2, ss⟩ := t
              simp only at d0 d1 d2 d3 hat
              clear hk2 hlen
              go_wp2_with (first
                | (refine lx_push w4 _ v _ ⟨kd, at_ + (a.size + 1), nn2, ss⟩ (hL.out.to ((MM.Far.refl [] wr).alloc _)) (by have := HLEN.out; omega) rfl (.tmp 95) (.tmp 97) rfl rfl (by rw [World.size_alloc]; rfl) ?_; intro v' w7 hL7; have HL7 := Lib.hid hL7; clear hL7))
              go_roundw
              case rel =>
                refine ⟨k + 1, v', by omega, rfl, by go_num, ?_⟩
                rw [HSN.out, List.map_append, ← List.append_assoc]
                exact HL7
              case measure => simp [intOf]; omega
            · obtain rfl : k = nb := by omega
              have hL2 := hL.out
              rw [List.take_of_length_le (by rw [HNB.out]; exact Nat.le_refl _)] at hL2
              obtain ⟨A5, c5, rfl, _, _, _, hsrc, _⟩ := MO.form hL2.own
              rw [HNN.out]
              have HT5 := Lib.hid (TkRow.of_src (hsrc [] (by simp)))
              have HF5 := Lib.hid hL2.far
              clear hL hL2 hsrc hlt HLT HT2 HT2' HL5 HS1
              generalize hTT : ta ++ tb.map (shiftT (a.size + 1)) = TT at HNN HT3 HT5
              clear hTT
              go_wp2_with (go_at_call 12; with_reducible refine (same_yes TT (na + k) HNN.out (by omega) A3 A5 c3 c5 wr (HT3.out.far HF5.out) HT5.out).mono ?_; rintro e w6 ⟨rfl, hF6⟩)
              go_ret
              exact ⟨rfl, ((HF.out.trans HF5.out (by simp)).trans hF6 (by simp)).below_nil⟩
end LW
end Go.Proofs.YtiebebbahbiloaaDoor
