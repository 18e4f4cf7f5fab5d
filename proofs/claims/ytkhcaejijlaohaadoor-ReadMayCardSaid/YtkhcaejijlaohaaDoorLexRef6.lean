/-
  Contract of the document's own Lex. No condition but that the text is no longer than a text can be.
-/
import Derived.Test.YtkhcaejijlaohaaDoorLexRef5
namespace Go.Proofs.YtkhcaejijlaohaaDoor
open Go.RowKit
namespace LX
/-- What a step is, case by case. -/
theorem step_blank {c : UInt8} {r : List UInt8} (h : blank c = true) : step (c :: r) = .skip 1 := by unfold step; simp [h]
theorem step_note {c : UInt8} {r : List UInt8} (h : blank c = false) (h2 : c = 59) : step (c :: r) = .skip (note (c :: r)).length := by unfold step; simp only []; rw [if_neg (by rw [h]; decide), if_pos h2]
theorem step_mark {c : UInt8} {r : List UInt8} (h : blank c = false) (h2 : c ≠ 59) (h3 : mark c ≠ 0) : step (c :: r) = .tok (mark c) 0 emp 1 := by unfold step; simp [h, h2, h3]
theorem step_hash {c : UInt8} {r : List UInt8} (h : blank c = false) (h2 : c ≠ 59) (h3 : mark c = 0) (h4 : c = 35) :
    step (c :: r) = if word r = [116] then .tok 5 1 emp 2 else if word r = [102] then .tok 5 0 emp 2 else .err 50 := by unfold step; simp only []; rw [if_neg (by rw [h]; decide), if_neg h2, if_neg (fun h => h h3), if_pos h4]
theorem step_bad {c : UInt8} {r : List UInt8} (h : blank c = false) (h2 : c ≠ 59) (h3 : mark c = 0) (h4 : c ≠ 35) (h5 : let_ c = false) : step (c :: r) = .err 50 := by unfold step; simp [h, h2, h3, h4, h5]
theorem step_one {c : UInt8} {r : List UInt8} (h : blank c = false) (h2 : c ≠ 59) (h3 : mark c = 0) (h4 : c ≠ 35) (h5 : let_ c = true) : step (c :: r) = one (word (c :: r)) := by unfold step; simp [h, h2, h3, h4, h5]
theorem blank_no {c : UInt8} (h : blank c = false) : c ≠ 32 ∧ c ≠ 9 ∧ c ≠ 10 := by
  simp [blank] at h; exact ⟨h.1.1, h.1.2, h.2⟩
end LX
namespace LW
open LX
theorem eq_yes {c d : UInt8} {n : Int} (h : c = d) (e : (d.toNat : Int) = n) : (((c.toNat : Int)) == n) = true := by rw [h, e]; simp
theorem eq_no {c d : UInt8} {n : Int} (h : c ≠ d) (e : (d.toNat : Int) = n) : (((c.toNat : Int)) == n) = false := by
  rw [beq_eq_false_iff_ne, ← e]
  intro h2
  exact h (UInt8.toNat_inj.1 (by omega))
theorem drop_cons (s : ByteArray) (i : Nat) (h : i < s.size) : (bts s).drop i = s[i] :: (bts s).drop (i + 1) := by
  rw [List.drop_eq_getElem_cons (by rw [bts_len]; exact h), at_bts s i h]; rfl
theorem list_eq (a : ByteArray) : a.toList = bts a := Lib.toList_data a
theorem str_yes {l m : List UInt8} (h : l = m) : ((str l).toList == m) = true := by
  rw [list_eq, bts_str, h]; simp
theorem str_no {l m : List UInt8} (h : l ≠ m) : ((str l).toList == m) = false := by
  rw [beq_eq_false_iff_ne, list_eq, bts_str]; exact h
theorem one_err {w : List UInt8} {e : Int} (h : LX.one w = .err e) : (e == 0) = false := by
  unfold LX.one at h
  split at h
  · split at h
    · injection h with h; subst h; rfl
    · cases h
  · split at h
    · injection h with h; subst h; rfl
    · split at h
      · injection h with h; subst h; rfl
      · cases h
theorem lex_skip {s : ByteArray} {i k : Nat} {out : List Tk} {R : Except (Nat × Int) (List Tk)} (hi : i < s.size) (hR : lexL ((bts s).drop i) i out = R) (h : LX.step (s[i] :: (bts s).drop (i + 1)) = St.skip k) : lexL ((bts s).drop (i + k)) (i + k) out = R := by
  rw [drop_cons s i hi, lexL_step, h] at hR
  rw [← hR]
  simp only
  rw [← drop_cons s i hi, List.drop_drop]
theorem lex_tok {s : ByteArray} {i k : Nat} {out : List Tk} {R : Except (Nat × Int) (List Tk)} {kd n : Int} {z : ByteArray} (hi : i < s.size) (hR : lexL ((bts s).drop i) i out = R) (h : LX.step (s[i] :: (bts s).drop (i + 1)) = St.tok kd n z k) : lexL ((bts s).drop (i + k)) (i + k) (out ++ [⟨kd, i, n, z⟩]) = R := by
  rw [drop_cons s i hi, lexL_step, h] at hR
  rw [← hR]
  simp only
  rw [← drop_cons s i hi, List.drop_drop]
theorem lex_err {s : ByteArray} {i : Nat} {out : List Tk} {R : Except (Nat × Int) (List Tk)} {e : Int} (hi : i < s.size) (hR : lexL ((bts s).drop i) i out = R) (h : LX.step (s[i] :: (bts s).drop (i + 1)) = St.err e) : R = .error (i, e) := by
  rw [drop_cons s i hi, lexL_step, h] at hR
  exact hR.symm
theorem lex_fits {s : ByteArray} {i : Nat} (hi : i < s.size) : (∃ e, LX.step (s[i] :: (bts s).drop (i + 1)) = St.err e) ∨ i + adv (LX.step (s[i] :: (bts s).drop (i + 1))) ≤ s.size := by
  rcases step_adv s[i] ((bts s).drop (i + 1)) with h | ⟨_, h⟩
  · exact .inl h
  · right
    rw [← drop_cons s i hi, List.length_drop, bts_len, drop_cons s i hi] at h
    omega
def LI (s : ByteArray) (w0 : World) (R : Except (Nat × Int) (List Tk)) (i : Nat) (v : Value) (out : List Tk) (w : World) : Prop :=
  Lx w0 w v out ∧ out.length ≤ i ∧ lexL ((bts s).drop i) i out = R
set_option maxRecDepth 20000 in
set_option maxHeartbeats 4000000 in
theorem rlex_in (s : ByteArray) (hs : s.size ≤ 4000) (w : World) :
    Calls Tryd.prog 21 #[.string s] w (LexP w (LX.lex s)) := by
  have hR0 : LX.lex s = lexL (bts s) 0 [] := by unfold LX.lex; rw [if_neg (by omega)]
  obtain ⟨R, hR⟩ : ∃ R, lexL ((bts s).drop 0) 0 [] = R := ⟨_, rfl⟩
  have hRr : LX.lex s = R := by rw [hR0, ← hR]; rfl
  rw [hRr]
  have HB : Hid (LI s w R 0 (.slice none 0 0) [] w) := Lib.hid ⟨Lx.begin w, Nat.le_refl _, hR⟩
  have HEND : Hid (∀ v out w2, LI s w R s.size v out w2 → LexP w R (.returned (.tuple #[v, .int .i64 0, .int .i64 0])) w2) := Lib.hid (by
    intro v out w2 h
    refine h.1.done ?_
    have := h.2.2
    rw [List.drop_eq_nil_of_le (by rw [bts_len]; exact Nat.le_refl _), lexL_nil] at this
    exact this.symm)
  clear hR0 hR hRr
  go_enter Tryd.func21, Tryd.ntmps21
  go_wp2
  go_loopw [5, 6] (fun s5 s6 wr => ∃ (i : Nat) (v : Value) (out : List Tk), i ≤ s.size ∧ v = s5 ∧ s6 = .int .i64 i ∧ Hid (LI s w R i v out wr)) (fun _ s6 _ => s.size - (intOf s6).toNat)
  case atStart => exact ⟨0, _, _, by omega, rfl, rfl, HB⟩
  case round =>
    obtain ⟨i, v, out, hi, rfl, rfl, hI⟩ := hrel
    by_cases hlt : i < s.size
    · have HF := Lib.hid (lex_fits hlt)
      by_cases hb : LX.blank s[i] = true
      · have HN : Hid (LI s w R (i + 1) v out wr) := Lib.hid ⟨hI.out.1, by have := hI.out.2.1; omega, lex_skip hlt hI.out.2.2 (step_blank hb)⟩
        by_cases h1 : s[i] = 32
        · have d1 := eq_yes h1 (n := 32) rfl
          clear hb h1
          go_wp2
          go_roundw
          case rel => exact ⟨i + 1, v, out, by omega, rfl, by go_num, HN⟩
          case measure => simp [intOf]; omega
        · have d1 := eq_no h1 (n := 32) rfl
          by_cases h2 : s[i] = 9
          · have d2 := eq_yes h2 (n := 9) rfl
            clear hb h1 h2
            go_wp2
            go_roundw
            case rel => exact ⟨i + 1, v, out, by omega, rfl, by go_num, HN⟩
            case measure => simp [intOf]; omega
          · have d2 := eq_no h2 (n := 9) rfl
            have h3 : s[i] = 10 := by simpa [LX.blank, h1, h2] using hb
            have d3 := eq_yes h3 (n := 10) rfl
            clear hb h1 h2 h3
            go_wp2
            go_roundw
            case rel => exact ⟨i + 1, v, out, by omega, rfl, by go_num, HN⟩
            case measure => simp [intOf]; omega
      · have hb : LX.blank s[i] = false := by simpa using hb
        obtain ⟨b1, b2, b3⟩ := blank_no hb
        have d1 := eq_no b1 (n := 32) rfl
        have d2 := eq_no b2 (n := 9) rfl
        have d3 := eq_no b3 (n := 10) rfl
        clear b1 b2 b3
        by_cases h4 : s[i] = 59
        · have d4 := eq_yes h4 (n := 59) rfl
          obtain ⟨n, hn⟩ : ∃ n, (note (s[i] :: (bts s).drop (i + 1))).length = n := ⟨_, rfl⟩
          have hst := step_note (r := (bts s).drop (i + 1)) hb h4
          rw [hn] at hst
          have hle : i + n ≤ s.size := by
            rcases HF.out with ⟨e, he⟩ | h
            · rw [hst] at he; cases he
            · rw [hst] at h; exact h
          have hn0 : 0 < n := by rw [← hn, h4]; simp [note]
          have HN : Hid (LI s w R (i + n) v out wr) := Lib.hid ⟨hI.out.1, by have := hI.out.2.1; omega, lex_skip hlt hI.out.2.2 hst⟩
          rw [← drop_cons s i hlt] at hn
          have HY : Hid (∀ j (h : i + j < s.size), j < n → s[i + j] ≠ 10) := Lib.hid (by
            intro j h hj
            obtain ⟨x, h1, h2⟩ := tw_yes (p := fun c => c != 10) (l := (bts s).drop i) (j := j) (by unfold note at hn; omega)
            rw [drop_at s i j h] at h1
            cases h1; simpa using h2)
          have HNo : Hid (∀ (h : i + n < s.size), s[i + n] = 10) := Lib.hid (by
            intro h
            unfold note at hn
            obtain ⟨x, h1, h2⟩ := tw_no (p := fun c => c != 10) (l := (bts s).drop i) (by rw [List.length_drop, bts_len]; omega)
            rw [hn, drop_at s i n h] at h1
            cases h1; simpa using h2)
          clear hb h4 hst hn HF
          go_wp2
          go_loop [6] (fun s6 => ∃ j : Nat, j ≤ n ∧ s6 = .int .i64 ((i + j : Nat) : Int)) (fun s6 => s.size - (intOf s6).toNat)
          case atStart => exact ⟨0, by omega, rfl⟩
          case round =>
            obtain ⟨j, hj, rfl⟩ := hrel
            obtain ⟨t, ht⟩ : ∃ t, t = i + j := ⟨_, rfl⟩
            rw [← ht]
            clear d1 d2 d3 d4
            by_cases hlt2 : t < s.size
            · by_cases hjn : j < n
              · have d10 : (((s[t]).toNat : Int) == 10) = false := eq_no (d := 10) (by rw [show s[t] = s[i + j]'(by omega) from by congr 1]; exact HY.out j (by omega) hjn) rfl
                have HT := Lib.hid ht
                clear ht
                go_wp2
                go_round
                case rel => exact ⟨j + 1, by omega, by have := HT.out; go_num⟩
                case measure => simp [intOf]; omega
              · have hjn2 : j = n := by omega
                have d10 : (((s[t]).toNat : Int) == 10) = true := eq_yes (d := 10) (by rw [show s[t] = s[i + n]'(by omega) from by congr 1; omega]; exact HNo.out (by omega)) rfl
                have HT := Lib.hid (show t = i + n by omega)
                have hti : i < t := by omega
                have hts : t ≤ s.size := by omega
                clear ht hj hjn hjn2
                go_wp2
                go_roundw
                case rel => exact ⟨t, v, out, hts, rfl, rfl, HT.out ▸ HN⟩
                case measure => simp [intOf]; omega
            · have hts : t ≤ s.size := by omega
              have HT := Lib.hid (show t = i + n by omega)
              have hti : i < t := by omega
              clear ht hj
              go_wp2
              go_roundw
              case rel => exact ⟨t, v, out, hts, rfl, rfl, HT.out ▸ HN⟩
              case measure => simp [intOf]; omega
        · have d4 := eq_no h4 (n := 59) rfl
          have HM := Lib.hid (mark_any s[i])
          have HL := Lib.hid hI.out.1
          have ho := hI.out.2.1
          have HR := Lib.hid hI.out.2.2
          clear hI
          by_cases h5 : LX.mark s[i] = 0
          · rw [h5] at HM
            by_cases h6 : s[i] = 35
            · have d6 := eq_yes h6 (n := 35) rfl
              have HS := Lib.hid (step_hash (r := (bts s).drop (i + 1)) hb h4 h5 h6)
              have HW : Hid (∀ w, Calls Tryd.prog 33 #[.string s, .int .i64 ((i : Int) + 1)] w fun e w' => e = .returned (.string (str (LX.word ((bts s).drop (i + 1))))) ∧ w = w') := Lib.hid (word_any s (i + 1) (by omega) (by omega))
              by_cases h7 : LX.word ((bts s).drop (i + 1)) = [116]
              · have d7 := str_yes (m := [116]) h7
                have d8 := str_no (m := [102]) (show LX.word ((bts s).drop (i + 1)) ≠ [102] by rw [h7]; decide)
                generalize str (LX.word ((bts s).drop (i + 1))) = z at HW d7 d8
                have hst := HS.out
                rw [if_pos h7] at hst
                have HN := Lib.hid (lex_tok hlt HR.out hst)
                have hle : i + 2 ≤ s.size := by
                  rcases HF.out with ⟨e, he⟩ | h
                  · rw [hst] at he; cases he
                  · rw [hst] at h; exact h
                clear hb h4 h5 h6 h7 hst HF HS HR
                go_wp2_with (first
                  | (go_at_call 32; refine (HM.out _).mono ?_; rintro e w2 ⟨rfl, rfl⟩)
                  | (go_at_call 33; refine (HW.out _).mono ?_; rintro e w2 ⟨rfl, rfl⟩)
                  | (refine lx_push w wr v out ⟨5, i, 1, emp⟩ HL.out (by omega) rfl (.tmp 77) (.tmp 81) rfl rfl rfl ?_; intro v' w2 hL2; have HL2 := Lib.hid hL2; clear hL2))
                go_roundw
                case rel => exact ⟨i + 2, v', _, by omega, rfl, by go_num, Lib.hid ⟨HL2.out, by simp; omega, HN.out⟩⟩
                case measure => simp [intOf]; omega
              · by_cases h8 : LX.word ((bts s).drop (i + 1)) = [102]
                · have d7 := str_no (m := [116]) h7
                  have d8 := str_yes (m := [102]) h8
                  generalize str (LX.word ((bts s).drop (i + 1))) = z at HW d7 d8
                  have hst := HS.out
                  rw [if_neg h7, if_pos h8] at hst
                  have HN := Lib.hid (lex_tok hlt HR.out hst)
                  have hle : i + 2 ≤ s.size := by
                    rcases HF.out with ⟨e, he⟩ | h
                    · rw [hst] at he; cases he
                    · rw [hst] at h; exact h
                  clear hb h4 h5 h6 h7 h8 hst HF HS HR
                  go_wp2_with (first
                    | (go_at_call 32; refine (HM.out _).mono ?_; rintro e w2 ⟨rfl, rfl⟩)
                    | (go_at_call 33; refine (HW.out _).mono ?_; rintro e w2 ⟨rfl, rfl⟩)
                    | (refine lx_push w wr v out ⟨5, i, 0, emp⟩ HL.out (by omega) rfl (.tmp 77) (.tmp 81) rfl rfl rfl ?_; intro v' w2 hL2; have HL2 := Lib.hid hL2; clear hL2))
                  go_roundw
                  case rel => exact ⟨i + 2, v', _, by omega, rfl, by go_num, Lib.hid ⟨HL2.out, by simp; omega, HN.out⟩⟩
                  case measure => simp [intOf]; omega
                · have d7 := str_no (m := [116]) h7
                  have d8 := str_no (m := [102]) h8
                  generalize str (LX.word ((bts s).drop (i + 1))) = z at HW d7 d8
                  have hst := HS.out
                  rw [if_neg h7, if_neg h8] at hst
                  have HN := Lib.hid (lex_err hlt HR.out hst)
                  clear hb h4 h5 h6 h7 h8 hst HF HS HR
                  go_wp2_with (first
                    | (go_at_call 32; refine (HM.out _).mono ?_; rintro e w2 ⟨rfl, rfl⟩)
                    | (go_at_call 33; refine (HW.out _).mono ?_; rintro e w2 ⟨rfl, rfl⟩))
                  go_ret3
                  exact LexP.err HL.out.far HN.out
            · have d6 := eq_no h6 (n := 35) rfl
              have HT := Lib.hid (letter_any s[i])
              by_cases h7 : let_ s[i] = false
              · rw [h7] at HT
                have HN := Lib.hid (lex_err hlt HR.out (step_bad hb h4 h5 h6 h7))
                clear hb h4 h5 h6 h7 HF HR
                go_wp2_with (first
                  | (go_at_call 32; refine (HM.out _).mono ?_; rintro e w2 ⟨rfl, rfl⟩)
                  | (go_at_call 34; refine (HT.out _).mono ?_; rintro e w2 ⟨rfl, rfl⟩))
                go_ret3
                exact LexP.err HL.out.far HN.out
              · have h7 : let_ s[i] = true := by simpa using h7
                rw [h7] at HT
                have HW := Lib.hid (word_any s i hi (by omega))
                have hst := step_one (r := (bts s).drop (i + 1)) hb h4 h5 h6 h7
                rw [← drop_cons s i hlt] at hst
                have hz0 : 0 < (LX.word ((bts s).drop i)).length := by rw [drop_cons s i hlt]; exact word_pos h7
                have hz1 : i + (LX.word ((bts s).drop i)).length ≤ s.size := by
                  have := word_le ((bts s).drop i)
                  rw [List.length_drop, bts_len] at this; omega
                have hz2 := str_size (LX.word ((bts s).drop i))
                have hz3 := bts_str (LX.word ((bts s).drop i))
                generalize str (LX.word ((bts s).drop i)) = z at HW hz2 hz3
                generalize LX.word ((bts s).drop i) = y at HW hst hz0 hz1 hz2 hz3
                subst hz3
                rw [← hz2] at hz0 hz1
                have hO := one_any z i hz0 (by omega)
                rw [← drop_cons s i hlt] at HF
                rw [hst] at HF
                cases h9 : LX.one (bts z) with
                | skip k => exact (one_skip h9).elim
                | err x =>
                  have de := one_err h9
                  rw [h9] at hO hst
                  have HO : Hid (∀ w, Calls Tryd.prog 35 #[.string z, .int .i64 i] w fun e w' => e = .returned (.tuple #[.agg #[.int .u8 0, .int .i64 0, .int .i64 0, .string ⟨#[]⟩], .int .i64 x]) ∧ Below w.heap.size w w') := Lib.hid hO
                  have HN := Lib.hid (lex_err hlt HR.out (by rw [← drop_cons s i hlt]; exact hst))
                  clear hb h4 h5 h6 h7 h9 hst hO HF HR hz2
                  go_wp2_with (first
                    | (go_at_call 32; refine (HM.out _).mono ?_; rintro e w2 ⟨rfl, rfl⟩)
                    | (go_at_call 34; refine (HT.out _).mono ?_; rintro e w2 ⟨rfl, rfl⟩)
                    | (go_at_call 33; refine (HW.out _).mono ?_; rintro e w2 ⟨rfl, rfl⟩)
                    | (go_at_call 35; refine (HO.out _).mono ?_; rintro e w3 ⟨rfl, hBl⟩; have HB3 := Lib.hid (MM.Far.of_below hBl []); clear hBl))
                  go_ret3
                  exact LexP.err ((HL.out.far.trans HB3.out (by simp)).alloc _) HN.out
                | tok kd n sv k =>
                  have hk := one_k h9
                  rw [bts_len] at hk
                  subst hk
                  rw [h9] at hO hst
                  have HO : Hid (∀ w, Calls Tryd.prog 35 #[.string z, .int .i64 i] w fun e w' => e = .returned (.tuple #[.agg #[.int .u8 kd, .int .i64 i, .int .i64 n, .string sv], .int .i64 0]) ∧ Below w.heap.size w w') := Lib.hid hO
                  have HN := Lib.hid (lex_tok hlt HR.out (by rw [← drop_cons s i hlt]; exact hst))
                  clear hb h4 h5 h6 h7 h9 hst hO HF HR hz2
                  go_wp2_with (first
                    | (go_at_call 32; refine (HM.out _).mono ?_; rintro e w2 ⟨rfl, rfl⟩)
                    | (go_at_call 34; refine (HT.out _).mono ?_; rintro e w2 ⟨rfl, rfl⟩)
                    | (go_at_call 33; refine (HW.out _).mono ?_; rintro e w2 ⟨rfl, rfl⟩)
                    | (go_at_call 35; refine (HO.out _).mono ?_; rintro e w3 ⟨rfl, hBl⟩; have HL3 := Lib.hid ((HL.out.to (MM.Far.of_below hBl [])).to ((MM.Far.refl [] w3).alloc (.cells #[.int .u8 kd, .int .i64 i, .int .i64 n, .string sv] 48))); clear hBl)
                    | (refine lx_push w _ v out ⟨kd, i, n, sv⟩ HL3.out (by omega) rfl (.tmp 102) (.tmp 104) rfl rfl (by rw [World.size_alloc]; rfl) ?_; intro v' w2 hL2; have HL2 := Lib.hid hL2; clear hL2))
                  go_roundw
                  case rel => exact ⟨i + z.size, v', _, by omega, rfl, by go_num, Lib.hid ⟨HL2.out, by simp; omega, HN.out⟩⟩
                  case measure => simp [intOf]; omega
          · have HN := Lib.hid (lex_tok hlt HR.out (step_mark (r := (bts s).drop (i + 1)) hb h4 h5))
            have d5 : (LX.mark s[i] == 0) = false := by rw [beq_eq_false_iff_ne]; exact h5
            generalize LX.mark s[i] = k at HM HN d5
            clear hb h4 h5 HF HR
            go_wp2_with (first
              | (go_at_call 32; refine (HM.out _).mono ?_; rintro e w2 ⟨rfl, rfl⟩)
              | (refine lx_push w wr v out ⟨k, i, 0, emp⟩ HL.out (by omega) rfl (.tmp 54) (.tmp 58) rfl rfl rfl ?_; intro v' w2 hL2; have HL2 := Lib.hid hL2; clear hL2))
            go_roundw
            case rel => exact ⟨i + 1, v', _, by omega, rfl, by go_num, Lib.hid ⟨HL2.out, by simp; omega, HN.out⟩⟩
            case measure => simp [intOf]; omega
    · obtain rfl : i = s.size := by omega
      have HE := Lib.hid (HEND.out v out wr hI.out)
      clear hI
      go_wp2
      go_ret3
      exact HE.out
end LW
end Go.Proofs.YtkhcaejijlaohaaDoor
