/-
  Contract of the code's own Read. No condition.
-/
import Derived.Test.YtbglcdjimipeeaaDoorReadC5
import Derived.Test.YtbglcdjimipeeaaDoorReadDone
import Derived.Test.YtbglcdjimipeeaaDoorLexCode
import Derived.Test.YtbglcdjimipeeaaDoorLexGood
namespace Go.Proofs.YtbglcdjimipeeaaDoor
open Go.RowKit
namespace RC6
open LX RX RW6
open RM6 (Kin ndC kinsN kinsP ints_snoc ints_len ndC_snoc own_off one_far)
section
variable {w0 w : World} {q : Nat} {rv tv ov : Value} {rs : List (Nd × Value)} {tops : List Nat} {os : List (Pt × Value)} {ex : List (Value × List Nat)}
theorem Rdr.done (h : Rdr w0 w q rv tv ov rs tops os []) : Done w0 w rv tv rs tops :=
  ⟨h.far, h.row, ⟨fun k hk => h.kin.each k (by
    rcases List.mem_cons.1 hk with rfl | hk
    · exact List.mem_cons_self ..
    · exact List.mem_cons_of_mem _ (List.mem_append_left _ hk)), by
    have := h.kin.apart
    rw [List.pairwise_cons] at this ⊢
    exact ⟨fun k hk => this.1 k (List.mem_append_left _ hk), (List.pairwise_append.1 this.2).1⟩⟩⟩
theorem Has.start (w : World) : Has w (w.alloc (.cells #[.slice none 0 0, .slice none 0 0, .slice none 0 0] 41)) w.heap.size ⟨[], [], []⟩ := by
  refine ⟨.slice none 0 0, .slice none 0 0, .slice none 0 0, [], [], ⟨(MM.Far.refl [] w).alloc _, Nat.le_refl _, MM.Row.new w 41 [.slice none 0 0, .slice none 0 0, .slice none 0 0], MO.none_ _ _ _ _, MO.none_ _ _ _ _, ⟨fun k hk => ?_, by simp [kinsN, kinsP]⟩⟩, rfl, rfl⟩
  obtain rfl : k = (.slice none 0 0, []) := by simpa [kinsN, kinsP] using hk
  exact MO.none_ _ _ _ _
theorem Has.far {r : Rd} (h : Has w0 w q r) : MM.Far [] w0 w := by
  obtain ⟨_, _, _, _, _, h1, _⟩ := h
  exact h1.far
/-- What holds at the head of Read's loop. -/
def RdI (w0 : World) (q : Nat) (ts : List Tk) (X : Except (Int × Int) Rd) (k : Nat) (wr : World) : Prop := ∃ r, Has w0 wr q r ∧ Bd r (2 * k) ∧ tokens (ts.drop k) r = X
set_option maxHeartbeats 4000000 in
set_option maxRecDepth 20000 in
theorem read_any (s : ByteArray) (hs : s.size ≤ 140737488355328) (w : World) : Calls Tryd.prog 5 #[.string s] w (ReadQ w (RX.read s)) := by
  have HL := Lib.hid (LW.lex_q s hs)
  cases hR : LX.lex s with
  | error px =>
    obtain ⟨p, x⟩ := px
    have de := lex_errne hR
    have de1 : ¬ (x = 0) := by rwa [beq_eq_false_iff_ne] at de
    have de2 : (x != 0) = true := by simp [bne, de]
    have HE : Hid (RX.read s = .error ((p : Int), x)) := Lib.hid (by unfold RX.read; rw [hR])
    rw [hR] at HL
    clear hR
    go_enter Tryd.func5, Tryd.ntmps5
    go_wp2_with (go_at_call 8; refine (HL.out _).mono ?_; rintro e w2 ⟨hF2, A1, c1, rfl, -⟩; have HF2 := Lib.hid hF2; clear hF2)
    refine bodyPost_ret (v := .tuple #[.slice none 0 0, .slice none 0 0, .int .i64 p, .int .i64 x]) (by simp [results, Tryd.results5, go_sem]) rfl ?_
    rw [HE.out]
    exact ⟨rfl, HF2.out⟩
  | ok ts =>
    have hlen := lex_len hR
    have hin := (lex_in_s hR).1
    have hkd : ∀ t ∈ ts, t.kind = 1 ∨ t.kind = 2 ∨ t.kind = 3 ∨ t.kind = 4 ∨ t.kind = 5 ∨ t.kind = 6 := fun t ht => (hin t ht).good.kind
    obtain ⟨n, hn⟩ : ∃ n, ts.length = n := ⟨_, rfl⟩
    have hn4 : n ≤ 4000 := by omega
    have HN := Lib.hid hn
    obtain ⟨X, hX⟩ : ∃ X, tokens ts ⟨[], [], []⟩ = X := ⟨_, rfl⟩
    have HE : Hid (RX.read s = fin X) := Lib.hid (by
      unfold RX.read
      rw [hR]
      simp only
      rw [readT_fin hkd, hX])
    have HX := Lib.hid hX
    have HKD := Lib.hid hkd
    rw [hR] at HL
    unfold LW.LexQ at HL
    simp only [hn] at HL
    clear hR hlen hin hkd hn hX
    go_enter Tryd.func5, Tryd.ntmps5
    go_wp2_with (go_at_call 8; refine (HL.out _).mono ?_; rintro e w2 ⟨hF2, A1, c1, rfl, hc1, hc2, -, hs2⟩; have HF2 := Lib.hid hF2; have HT2 := Lib.hid (LW.TkRow.of_src hs2); have HST := Lib.hid (Has.start w2); clear hF2 hs2)
    clear HL
    have HSB := Lib.hid (show RdI w2 w2.heap.size ts X 0 (w2.alloc (.cells #[.slice none 0 0, .slice none 0 0, .slice none 0 0] 41)) from ⟨⟨[], [], []⟩, HST.out, ⟨by simp, by simp, by simp⟩, HX.out⟩)
    clear HST HX
    obtain ⟨q, hq⟩ : ∃ q, w2.heap.size = q := ⟨_, rfl⟩
    rw [hq] at HSB
    have HQ := Lib.hid hq
    rw [hq]
    go_wp2
    clear hq
    go_loopw [27] (fun s27 wr => ∃ k : Nat, k ≤ n ∧ s27 = .int .i64 k ∧ Hid (RdI w2 q ts X k wr)) (fun s27 _ => n - (intOf s27).toNat)
    case atStart => exact ⟨0, by omega, rfl, HSB⟩
    case round =>
      obtain ⟨k, hk, rfl, hI⟩ := hrel
      obtain ⟨r, hH, hbd, hX⟩ := hI.out
      clear hI HSB
      by_cases hlt : k < n
      · have hk2 : k < ts.length := by rw [HN.out]; exact hlt
        obtain ⟨b, o, rfl, hb, d0, d1, d2, d3⟩ := (HT2.out.far hH.far) k hk2
        have htk := HKD.out _ (List.getElem_mem hk2)
        rw [List.drop_eq_getElem_cons hk2] at hX
        generalize ts[k] = t at *
        have HF3 := Lib.hid ((MM.Far.refl [] wr).alloc (.cells #[.int .u8 t.kind, .int .i64 t.at_, .int .i64 t.n, .string t.s] 43))
        have HB3 := Lib.hid (MM.Row.new wr 43 [.int .u8 t.kind, .int .i64 t.at_, .int .i64 t.n, .string t.s])
        have HC := Lib.hid (take_any t htk r (hH.to HF3.out) (hbd.mono (by omega)))
        have HFr := Lib.hid hH.far
        have HBD := Lib.hid hbd
        have HX := Lib.hid hX
        clear hk2 htk hH hbd hX
        obtain ⟨Y, hY⟩ : ∃ Y, token r t = Y := ⟨_, rfl⟩
        rw [hY] at HC
        cases Y with
        | error z =>
          have hz := token_err hY
          have de : (z == 0) = false := by rw [beq_eq_false_iff_ne]; omega
          have de1 : ¬ (z = 0) := by omega
          have de2 : (z != 0) = true := by simp [bne, de]
          have HE2 : Hid (RX.read s = .error (t.at_, z)) := Lib.hid (by
            rw [HE.out, ← HX.out]
            simp only [tokens, hY, fin])
          clear hY hz
          go_wp2_with (go_at_call 9; refine HC.out.mono ?_; rintro e w4 ⟨rfl, hF4⟩; have HB4 := Lib.hid (HB3.out.far hF4 (by simp)); have HF4 := Lib.hid hF4; have y1 := HB4.out.at (i := 1) rfl; clear hF4)
          go_quiet (fail)
          go_wp2
          refine bodyPost_ret (v := .tuple #[.slice none 0 0, .slice none 0 0, .int .i64 t.at_, .int .i64 z]) (by simp [results, Tryd.results5, go_sem]) rfl ?_
          rw [HE2.out]
          exact ⟨rfl, ((((HF2.out.trans HFr.out (by simp)).trans HF3.out (by simp)).trans HF4.out (by simp)).drewN _)⟩
        | ok R =>
          have HY := Lib.hid hY
          clear hY
          go_wp2_with (go_at_call 9; refine HC.out.mono ?_; rintro e w4 ⟨rfl, -, hH4⟩; have HH4 := Lib.hid hH4; clear hH4)
          go_roundw
          case rel => exact ⟨k + 1, by omega, by go_num, Lib.hid ⟨R, HH4.out, (token_bd HBD.out HY.out).mono (by omega), by rw [← HX.out]; simp only [tokens, HY.out]⟩⟩
          case measure => simp [intOf]; omega
      · obtain rfl : k = n := by omega
        rw [List.drop_of_length_le (by rw [HN.out]; exact Nat.le_refl _)] at hX
        simp only [tokens] at hX
        subst hX
        have HEND := Lib.hid (end_any r hH (hbd.mono (by omega)))
        obtain ⟨rv, tv, ov, rs, os, hR, hrs, hos⟩ := hH
        have c0 := hR.head.at (i := 0) rfl
        have c1' := hR.head.at (i := 1) rfl
        have HR := Lib.hid hR
        have HRS := Lib.hid hrs
        clear hR hrs hos hbd
        obtain ⟨Y, hY⟩ : ∃ Y, endE r = Y := ⟨_, rfl⟩
        rw [hY] at HEND
        cases Y with
        | error az =>
          obtain ⟨a, z⟩ := az
          have hz := end_err hY
          have de : (z == 0) = false := by rw [beq_eq_false_iff_ne]; omega
          have de1 : ¬ (z = 0) := by omega
          have de2 : (z != 0) = true := by simp [bne, de]
          have HE2 : Hid (RX.read s = .error (a, z)) := Lib.hid (by
            rw [HE.out]
            simp only [fin, hY])
          clear hY hz
          go_wp2_with (go_at_call 10; refine HEND.out.mono ?_; rintro e w4 ⟨rfl, d, rfl⟩)
          refine bodyPost_ret (v := .tuple #[.slice none 0 0, .slice none 0 0, .int .i64 a, .int .i64 z]) (by simp [results, Tryd.results5, go_sem]) rfl ?_
          rw [HE2.out]
          exact ⟨rfl, (HF2.out.trans HR.out.far (by simp)).drewN _⟩
        | ok R =>
          have HE2 : Hid (RX.read s = .ok r) := Lib.hid (by
            have := end_ok hY
            subst this
            rw [HE.out]
            simp only [fin, hY])
          clear hY
          go_wp2_with (go_at_call 10; refine HEND.out.mono ?_; rintro e w4 ⟨rfl, d, rfl⟩)
          go_quiet (fail)
          go_wp2
          refine bodyPost_ret (v := .tuple #[rv, tv, .int .i64 0, .int .i64 0]) (by simp [results, Tryd.results5, go_sem]) rfl ?_
          rw [HE2.out]
          exact ⟨rv, tv, rs, rfl, (HR.out.done.from HF2.out).to (((MM.Far.refl [] wr).drewN _).drewN _), HRS.out⟩
end
end RC6
end Go.Proofs.YtbglcdjimipeeaaDoor
