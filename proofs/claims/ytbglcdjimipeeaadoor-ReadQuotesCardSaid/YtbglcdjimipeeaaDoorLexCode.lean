/-
  Contract of the code's own Lex. No condition.
-/
import Derived.Test.YtbglcdjimipeeaaDoorLexCode4
import Derived.Test.YtbglcdjimipeeaaDoorLexSame
namespace Go.Proofs.YtbglcdjimipeeaaDoor
open Go.RowKit
namespace LW
open LX
theorem slice_from (s x : ByteArray) (z : Int) (n : Nat) (h : s.extract n s.size = x) (hz : z = (n : Int)) (h1 : n ≤ s.size) (W : World) : (Instr.slice 9 (.string s) (some (.int .i64 z)) none none).run Tryd.prog W = .ok (.string x) W := by
  rw [run_slice_string_from_if W 9 s .i64 _ Tryd.underlying9, if_pos ⟨by omega, by omega⟩, ← h, hz]; rfl
theorem from_bts (s : ByteArray) (n : Nat) (h : n ≤ s.size) : bts (s.extract n s.size) = (bts s).drop n := by
  rw [show s.size = n + (s.size - n) by omega, cut_str, bts_str, List.take_of_length_le]
  rw [List.length_drop, bts_len]; exact Nat.le_refl _
theorem from_size (s : ByteArray) (n : Nat) (h : n ≤ s.size) : (s.extract n s.size).size = s.size - n := by
  rw [← bts_len, from_bts s n h, List.length_drop, bts_len]
theorem step_err {c : UInt8} {r : List UInt8} {e : Int} (h : LX.step (c :: r) = .err e) : (e == 0) = false := by
  by_cases h1 : LX.blank c = true
  · rw [step_blank h1] at h; cases h
  have h1 : LX.blank c = false := by simpa using h1
  by_cases h2 : c = 59
  · rw [step_note h1 h2] at h; cases h
  by_cases h3 : LX.mark c = 0
  · by_cases h4 : c = 35
    · rw [step_hash h1 h2 h3 h4] at h
      split at h
      · cases h
      · split at h
        · cases h
        · injection h with h; subst h; rfl
    · by_cases h5 : let_ c = true
      · rw [step_one h1 h2 h3 h4 h5] at h; exact one_err h
      · rw [step_bad h1 h2 h3 h4 (by simpa using h5)] at h
        injection h with h; subst h; rfl
  · rw [step_mark h1 h2 h3] at h; cases h
theorem step_go {c : UInt8} {r : List UInt8} {k : Nat} (h1 : LX.blank c = false) (h2 : c ≠ 59) (h : LX.step (c :: r) = .skip k) : False := by
  by_cases h3 : LX.mark c = 0
  · by_cases h4 : c = 35
    · rw [step_hash h1 h2 h3 h4] at h
      split at h
      · cases h
      · split at h <;> cases h
    · by_cases h5 : let_ c = true
      · rw [step_one h1 h2 h3 h4 h5] at h; exact one_skip h
      · rw [step_bad h1 h2 h3 h4 (by simpa using h5)] at h; cases h
  · rw [step_mark h1 h2 h3] at h; cases h
theorem step_pos {c : UInt8} {r : List UInt8} {kd n : Int} {sv : ByteArray} {k : Nat} (h : LX.step (c :: r) = .tok kd n sv k) : 0 < k := by
  rcases step_adv c r with ⟨e, he⟩ | ⟨h1, _⟩
  · rw [h] at he; cases he
  · rw [h] at h1; exact h1
/-- What holds where the code's loop begins a round: the tokens so far, and what is to come; no blank stands at i. -/
def CI (s : ByteArray) (w0 : World) (R : Except (Nat × Int) (List Tk)) (i : Nat) (v : Value) (out : List Tk) (w : World) : Prop :=
  LI s w0 R i v out w ∧ gapF false ((bts s).drop i) = 0
set_option maxRecDepth 20000 in
set_option maxHeartbeats 4000000 in
theorem lex_in (s : ByteArray) (hs : s.size ≤ 4000) (w : World) : Calls Tryd.prog 8 #[.string s] w (LexP w (LX.lex s)) := by
  have hR0 : LX.lex s = lexL (bts s) 0 [] := by unfold LX.lex; rw [if_neg (by omega)]
  obtain ⟨R, hR⟩ : ∃ R, lexL (bts s) 0 [] = R := ⟨_, rfl⟩
  rw [hR0, hR]
  obtain ⟨g, hg⟩ : ∃ g, gapF false (bts s) = g := ⟨_, rfl⟩
  have hgs : g ≤ s.size := by have := gapF_le false (bts s); rw [bts_len] at this; omega
  have HB : Hid (∀ w2, MM.Far [] w w2 → CI s w R g (.slice none 0 0) [] w2) := Lib.hid (fun w2 hF => ⟨⟨(Lx.begin w).to hF, Nat.zero_le _, by
    have := lexL_gap (bts s).length (bts s) 0 [] (Nat.le_refl _)
    rw [hR, hg, Nat.zero_add] at this
    exact this.symm⟩, by rw [← hg]; exact gapF_stop _ _⟩)
  have HEND : Hid (∀ v out w2, CI s w R s.size v out w2 → LexP w R (.returned (.tuple #[v, .int .i64 0, .int .i64 0])) w2) := Lib.hid (by
    intro v out w2 h
    refine h.1.1.done ?_
    have := h.1.2.2
    rw [List.drop_eq_nil_of_le (by rw [bts_len]; exact Nat.le_refl _), lexL_nil] at this
    exact this.symm)
  have HG := Lib.hid (gap_any s)
  rw [hg] at HG
  clear hR0 hR hg
  go_enter Tryd.func8, Tryd.ntmps8
  go_wp2_with (go_at_call 11; refine (HG.out _).mono ?_; rintro e w2 ⟨rfl, hF⟩; have HI := Lib.hid (HB.out _ hF); clear hF)
  go_loopw [5, 6] (fun s5 s6 wr => ∃ (i : Nat) (v : Value) (out : List Tk), i ≤ s.size ∧ v = s5 ∧ s6 = .int .i64 i ∧ Hid (CI s w R i v out wr)) (fun _ s6 _ => s.size - (intOf s6).toNat)
  case atStart => exact ⟨g, _, _, hgs, rfl, rfl, HI⟩
  case round =>
    obtain ⟨i, v, out, hi, rfl, rfl, hI⟩ := hrel
    by_cases hlt : i < s.size
    · have hdc := drop_cons s i hlt
      have hh := hI.out.2
      rw [hdc] at hh
      obtain ⟨hb, h59⟩ := gapF_head hh
      have hsl := slice_from s _ (i : Int) i rfl rfl hi
      have hx := from_bts s i hi
      have hxs := from_size s i hi
      generalize s.extract i s.size = x at hsl hx hxs
      rw [hdc] at hx
      have hF := first_any x _ _ hx hb h59 (by omega)
      have HL := Lib.hid hI.out.1.1
      have ho := hI.out.1.2.1
      cases hst : LX.step (s[i] :: (bts s).drop (i + 1)) with
      | skip k => exact (step_go hb h59 hst).elim
      | err z =>
        rw [hst] at hF
        have dz := step_err hst
        have dz' : (z != 0) = true := by rw [bne, dz]; rfl
        have HF : Hid (∀ w, Calls Tryd.prog 12 #[.string x] w fun e w' => MM.Far [] w w' ∧ ∃ c : Int, e = .returned (.tuple #[.agg #[.int .u8 0, .int .i64 0, .int .i64 0, .string ⟨#[]⟩], .int .i64 c, .int .i64 z])) := Lib.hid hF
        have HN := Lib.hid (lex_err hlt hI.out.1.2.2 hst)
        clear hF hst hb h59 hh hdc hx hxs hI
        go_wp2_with (go_at_call 12; refine (HF.out _).mono ?_; rintro e w2 ⟨hF2, cc, rfl⟩; have HF2 := Lib.hid hF2; clear hF2)
        go_ret3
        exact LexP.err ((HL.out.far.trans HF2.out (by simp)).alloc _) HN.out
      | tok kd n sv k =>
        rw [hst] at hF
        have HF : Hid (∀ w, Calls Tryd.prog 12 #[.string x] w fun e w' => MM.Far [] w w' ∧ e = .returned (.tuple #[.agg #[.int .u8 kd, .int .i64 0, .int .i64 n, .string sv], .int .i64 (k : Int), .int .i64 0])) := Lib.hid hF
        have hN := lex_tok hlt hI.out.1.2.2 hst
        have hk := step_pos hst
        have hik : i + k ≤ s.size := by
          rcases lex_fits hlt with ⟨e, he⟩ | h
          · rw [hst] at he; cases he
          · rw [hst] at h; exact h
        have hsl2 := slice_from s _ ((i : Int) + (k : Int)) (i + k) rfl (by omega) hik
        have hG := gap_any (s.extract (i + k) s.size)
        rw [from_bts s (i + k) hik] at hG
        generalize s.extract (i + k) s.size = y at hsl2 hG
        obtain ⟨q, hq⟩ : ∃ q, gapF false ((bts s).drop (i + k)) = q := ⟨_, rfl⟩
        have hqs : i + k + q ≤ s.size := by
          have := gapF_le false ((bts s).drop (i + k))
          rw [List.length_drop, bts_len, hq] at this; omega
        have hst2 := gapF_stop ((bts s).drop (i + k)) false
        rw [lexL_gap _ _ _ _ (Nat.le_refl _), hq] at hN
        rw [hq] at hG hst2
        rw [List.drop_drop] at hN hst2
        have HG2 := Lib.hid hG
        have HN := Lib.hid hN
        have HS2 := Lib.hid hst2
        clear hF hst hb h59 hh hdc hx hxs hI hG hN hst2 hq HG HB
        go_wp2_with (first
          | (go_at_call 12; refine (HF.out _).mono ?_; rintro e w2 ⟨hF2, rfl⟩; have HL3 := Lib.hid ((HL.out.to hF2).to ((MM.Far.refl [] w2).alloc (.cells #[.int .u8 kd, .int .i64 i, .int .i64 n, .string sv] 43))); clear hF2)
          | (refine lx_push w _ v out ⟨kd, i, n, sv⟩ HL3.out (by omega) rfl (.tmp 39) (.tmp 41) rfl rfl (by rw [World.size_alloc]; rfl) ?_; intro v' w2 hL2; have HL2 := Lib.hid hL2; clear hL2)
          | (go_at_call 11; refine (HG2.out _).mono ?_; rintro e w4 ⟨rfl, hF4⟩; have HL4 := Lib.hid (HL2.out.to hF4); clear hF4))
        go_roundw
        case rel => exact ⟨i + k + q, v', _, hqs, rfl, by go_num, Lib.hid ⟨⟨HL4.out, by simp; omega, HN.out⟩, HS2.out⟩⟩
        case measure => simp [intOf]; omega
    · obtain rfl : i = s.size := by omega
      have HE := Lib.hid (HEND.out v out wr hI.out)
      clear hI
      go_wp2
      go_ret3
      exact HE.out
theorem lex_any (s : ByteArray) (w : World) : Calls Tryd.prog 8 #[.string s] w (LexP w (LX.lex s)) := by
  by_cases h : s.size ≤ 4000
  · exact lex_in s h w
  · have e : LX.lex s = .error (0, 3) := by unfold LX.lex; rw [if_pos (by omega)]
    rw [e]
    clear e
    go_enter Tryd.func8, Tryd.ntmps8
    go_wp2
    go_ret3
    exact ⟨MM.Far.refl _ _, rfl⟩
theorem lex_q (s : ByteArray) (_hs : s.size ≤ 140737488355328) (w : World) : Calls Tryd.prog 8 #[.string s] w (LexQ w (LX.lex s)) := (lex_any s w).mono fun _ _ h => h.q
end LW
end Go.Proofs.YtbglcdjimipeeaaDoor
