/-
  Contract of the document's own Read. No condition.
-/
import Derived.Test.YtkhcaejijlaohaaDoorReadR2
import Derived.Test.YtkhcaejijlaohaaDoorReadDone
import Derived.Test.YtkhcaejijlaohaaDoorLexGood
namespace Go.Proofs.YtkhcaejijlaohaaDoor
open Go.RowKit
namespace RM6
open LX RX RW6
section
variable {w0 w : World} {q : Nat} {rv tv ov : Value} {rs : List (Nd × Value)} {tops : List Nat} {os : List (Pt × Value)} {ex : List (Value × List Nat)}
theorem Rdr.done (h : Rdr w0 w q rv tv ov rs tops os []) : Done w0 w rv tv rs tops :=
  ⟨h.far, h.row, ⟨fun k hk => h.kin.each k (by
    rcases List.mem_cons.1 hk with rfl | hk
    · exact List.mem_cons_self ..
    · exact List.mem_cons_of_mem _ (List.mem_append_left _ hk)), by
    have := h.kin.apart
    rw [List.pairwise_cons] at this ⊢
    exact ⟨fun k hk => this.1 k (List.mem_append_left _ hk), (List.pairwise_append.1 this.2).1⟩⟩⟩
theorem Has.start (w : World) : Has w (w.alloc (.cells #[.slice none 0 0, .slice none 0 0, .slice none 0 0] 55)) w.heap.size ⟨[], [], []⟩ := by
  refine ⟨.slice none 0 0, .slice none 0 0, .slice none 0 0, [], [], ⟨(MM.Far.refl [] w).alloc _, Nat.le_refl _, MM.Row.new w 55 [.slice none 0 0, .slice none 0 0, .slice none 0 0], MO.none_ _ _ _ _, MO.none_ _ _ _ _, ⟨fun k hk => ?_, by simp [kinsN, kinsP]⟩⟩, rfl, rfl⟩
  obtain rfl : k = (.slice none 0 0, []) := by simpa [kinsN, kinsP] using hk
  exact MO.none_ _ _ _ _
/-- What holds at the head of Read's loop. -/
def RdI (w0 : World) (q : Nat) (ts : List Tk) (X : Except (Int × Int) Rd) (k : Nat) (wr : World) : Prop := ∃ r, Has w0 wr q r ∧ Bd r (2 * k) ∧ tokens (ts.drop k) r = X
set_option maxHeartbeats 4000000 in
set_option maxRecDepth 20000 in
theorem rread_any (s : ByteArray) (hs : s.size ≤ 140737488355328) (w : World) : Calls Tryd.prog 12 #[.string s] w (ReadQ w (RX.read s)) := by
  have HL := Lib.hid (LW.rlex_q s hs)
  cases hR : LX.lex s with
  | error px =>
    obtain ⟨p, x⟩ := px
    have de := lex_errne hR
    have de1 : ¬ (x = 0) := by rwa [beq_eq_false_iff_ne] at de
    have de2 : (x != 0) = true := by simp [bne, de]
    have HE : Hid (RX.read s = .error ((p : Int), x)) := Lib.hid (by unfold RX.read; rw [hR])
    rw [hR] at HL
    clear hR
    go_enter Tryd.func12, Tryd.ntmps12
    go_wp2_with (go_at_call 21; refine (HL.out _).mono ?_; rintro e w2 ⟨hF2, A1, c1, rfl, -⟩; have HF2 := Lib.hid hF2; clear hF2)
    refine bodyPost_ret (v := .tuple #[.slice none 0 0, .slice none 0 0, .int .i64 p, .int .i64 x]) (by simp [results, Tryd.results12, go_sem]) rfl ?_
    rw [HE.out]
    exact ⟨rfl, HF2.out⟩
  | ok ts =>
    have hlen := lex_len hR
    have hin := (lex_in_s hR).1
    have hkd : ∀ t ∈ ts, t.kind = 1 ∨ t.kind = 2 ∨ t.kind = 3 ∨ t.kind = 4 ∨ t.kind = 5 ∨ t.kind = 6 := fun t ht => (hin t ht).good.kind
    obtain ⟨n, hn⟩ : ∃ n, ts.length = n := ⟨_, rfl⟩
    have hn4 : n ≤ 4000 := by omega
    have HN := Lib.hid hn
    obtain ⟨X, hX⟩ : ∃ X, tokens ts ⟨[], [], []⟩ = X := ⟨_, rfl⟩
    have HE : Hid (RX.read s = fin X) := Lib.hid (by
      unfold RX.read
      rw [hR]
      simp only
      rw [readT_fin hkd, hX])
    have HX := Lib.hid hX
    have HKD := Lib.hid hkd
    have HQE : Hid (∀ r, X = .ok r → TopOf ts.getLast? r.op) := Lib.hid (fun r e => by
      have := (tokens_q ts ⟨[], [], []⟩ r none (by intro p hp; simp at hp) (by intro p hp; simp at hp) hkd (hX.trans e)).2
      cases hg : ts.getLast? with
      | none => rw [hg] at this; intro p hp u hu; cases hu
      | some v => rw [hg] at this; simpa using this)
    rw [hR] at HL
    unfold LW.LexQ at HL
    simp only [hn] at HL
    clear hR hlen hin hkd hn hX
    go_enter Tryd.func12, Tryd.ntmps12
    go_wp2_with (go_at_call 21; refine (HL.out _).mono ?_; rintro e w2 ⟨hF2, A1, c1, rfl, hc1, hc2, -, hs2⟩; have HF2 := Lib.hid hF2; have HT2 := Lib.hid (LW.TkRow.of_src hs2); have HST := Lib.hid (Has.start w2); clear hF2 hs2)
    clear HL
    have HSB := Lib.hid (show RdI w2 w2.heap.size ts X 0 (w2.alloc (.cells #[.slice none 0 0, .slice none 0 0, .slice none 0 0] 55)) from ⟨⟨[], [], []⟩, HST.out, ⟨by simp, by simp, by simp⟩, HX.out⟩)
    clear HST HX
    obtain ⟨q, hq⟩ : ∃ q, w2.heap.size = q := ⟨_, rfl⟩
    rw [hq] at HSB
    rw [hq]
    go_wp2
    clear hq
    go_loopw [10] (fun s10 wr => ∃ k : Nat, k ≤ n ∧ s10 = .int .i64 k ∧ Hid (RdI w2 q ts X k wr)) (fun s10 _ => n - (intOf s10).toNat)
    case atStart => exact ⟨0, by omega, rfl, HSB⟩
    case round =>
      obtain ⟨k, hk, rfl, hI⟩ := hrel
      obtain ⟨r, hH, hbd, hX⟩ := hI.out
      clear hI HSB
      by_cases hlt : k < n
      · have hk2 : k < ts.length := by rw [HN.out]; exact hlt
        obtain ⟨b, o, rfl, hb, d0, d1, d2, d3⟩ := (HT2.out.far hH.far) k hk2
        have htk := HKD.out _ (List.getElem_mem hk2)
        rw [List.drop_eq_getElem_cons hk2] at hX
        generalize ts[k] = t at *
        have HC := Lib.hid (token_any t htk r hH (hbd.mono (by omega)))
        have HFr := Lib.hid hH.far
        have HBD := Lib.hid hbd
        have HX := Lib.hid hX
        clear hk2 htk hH hbd hX
        obtain ⟨Y, hY⟩ : ∃ Y, token r t = Y := ⟨_, rfl⟩
        rw [hY] at HC
        cases Y with
        | error z =>
          have hz := token_err hY
          have de : (z == 0) = false := by rw [beq_eq_false_iff_ne]; omega
          have de1 : ¬ (z = 0) := by omega
          have de2 : (z != 0) = true := by simp [bne, de]
          have HE2 : Hid (RX.read s = .error (t.at_, z)) := Lib.hid (by
            rw [HE.out, ← HX.out]
            simp only [tokens, hY, fin])
          clear hY hz
          go_wp2_with (go_at_call 22; refine HC.out.mono ?_; rintro e w4 ⟨rfl, hF4⟩; have y1 := (hF4.cell (p := ⟨b, o + k * 4 + 1, none⟩) hb (by simp)).trans d1; have HF4 := Lib.hid hF4; clear hF4)
          go_quiet (fail)
          go_wp2
          refine bodyPost_ret (v := .tuple #[.slice none 0 0, .slice none 0 0, .int .i64 t.at_, .int .i64 z]) (by simp [results, Tryd.results12, go_sem]) rfl ?_
          rw [HE2.out]
          exact ⟨rfl, (((HF2.out.trans HFr.out (by simp)).trans HF4.out (by simp)).drewN _)⟩
        | ok R =>
          have HY := Lib.hid hY
          clear hY
          go_wp2_with (go_at_call 22; refine HC.out.mono ?_; rintro e w4 ⟨rfl, hH4⟩; have HH4 := Lib.hid hH4; clear hH4)
          go_roundw
          case rel => exact ⟨k + 1, by omega, by go_num, Lib.hid ⟨R, HH4.out, (token_bd HBD.out HY.out).mono (by omega), by rw [← HX.out]; simp only [tokens, HY.out]⟩⟩
          case measure => simp [intOf]; omega
      · obtain rfl : k = n := by omega
        rw [List.drop_of_length_le (by rw [HN.out]; exact Nat.le_refl _)] at hX
        simp only [tokens] at hX
        subst hX
        have HTO := Lib.hid (HQE.out r rfl)
        have HTR := Lib.hid (HT2.out.far hH.far)
        obtain ⟨rv, tv, ov, rs, os, hR, hrs, hos⟩ := hH
        obtain ⟨oA, oc, rfl⟩ := form_ _ hR.op
        have c0 := hR.head.at (i := 0) rfl
        have c1' := hR.head.at (i := 1) rfl
        have c2' := hR.head.at (i := 2) rfl
        have HR := Lib.hid hR
        have HRS := Lib.hid hrs
        by_cases ho : os.length = 0
        · have HE2 : Hid (RX.read s = .ok r) := Lib.hid (by
            have hop : r.op = [] := by rw [← hos]; exact List.length_eq_zero_iff.1 (by rw [List.length_map]; exact ho)
            rw [HE.out]
            simp only [fin, endE, hop])
          have g1 : decide ((0 : Int) < (os.length : Int)) = false := by rw [decide_eq_false_iff_not]; omega
          have g2 : decide (0 < os.length) = false := by rw [decide_eq_false_iff_not]; omega
          have g3 : ¬ 0 < os.length := by omega
          clear hR hrs hos ho hbd HQE HE
          go_wp2
          go_quiet (fail)
          go_wp2
          refine bodyPost_ret (v := .tuple #[rv, tv, .int .i64 0, .int .i64 0]) (by simp [results, Tryd.results12, go_sem]) rfl ?_
          rw [HE2.out]
          exact ⟨rv, tv, rs, rfl, (HR.out.done.from HF2.out).to ((MM.Far.refl [] wr).drewN _), HRS.out⟩
        · obtain ⟨⟨p, hp⟩, os1, rfl⟩ : ∃ z os1, os = z :: os1 := by
            cases os with
            | nil => exact absurd rfl ho
            | cons z l => exact ⟨z, l, rfl⟩
          obtain ⟨og, oc2, e, cA, cQ, cL, hfz, hog, hog0⟩ := open_at HR.out
          injection e with e1 e2 e3
          subst e1 e3
          have hop : r.op = p :: os1.map (·.1) := by rw [← hos, List.map_cons]
          have hos1 : os1.length ≤ 20000 := by have := hbd.sum; rw [hop, List.length_cons, List.length_map] at this; omega
          rw [List.length_cons] at c2'
          have g1 : decide ((0 : Int) < ((os1.length : Nat) : Int) + 1) = true := by rw [decide_eq_true_iff]; omega
          have hk0 : 0 < k := by
            rcases Nat.eq_zero_or_pos k with h0 | h0
            · have := hbd.sum; rw [hop, List.length_cons] at this; omega
            · exact h0
          obtain ⟨k1, hk1⟩ : ∃ k1, k = k1 + 1 := ⟨k - 1, by omega⟩
          subst hk1
          have hk2 : k1 < ts.length := by rw [HN.out]; omega
          obtain ⟨b, o, rfl, hb, d0, d1, d2, d3⟩ := HTR.out k1 hk2
          have hg : ts.getLast? = some ts[k1] := by
            rw [List.getLast?_eq_getElem?, HN.out]
            exact List.getElem?_eq_getElem hk2
          have hto := HTO.out p (by rw [hop]; rfl) ts[k1] hg
          have HE2 : Hid (RX.read s = if p.q = true then .error (p.at_, 63) else .error (p.at_, 60)) := Lib.hid (by
            rw [HE.out]
            simp only [fin, endE, hop])
          have hk1' : (k1 : Int) < (k1 : Int) + 1 := by omega
          have hw1 : IntKind.i64.wrap ((os1.length : Nat) : Int) = (os1.length : Int) := IntWalk.i64_in _ (by omega)
          have hw2 : IntKind.i64.wrap ((k1 : Nat) : Int) = (k1 : Int) := IntWalk.i64_in _ (by omega)
          have ho1 : (os1.length : Int) < (os1.length : Int) + 1 := by omega
          generalize ts[k1] = v at *
          have HTO2 := Lib.hid hto
          clear hR hrs hos ho hbd HQE HE hop hg hto HTO HTR e2
          rcases HTO2.out with ⟨q1, q2, q3⟩ | ⟨q1, q2⟩
          · have de : (v.kind == 3) = true := by simp [q2]
            rw [q1, if_pos rfl] at HE2
            have HQ3 := Lib.hid q3
            clear q1 q2 q3 HTO2
            go_wp2
            go_quiet (fail)
            go_wp2
            refine bodyPost_ret (v := .tuple #[.slice none 0 0, .slice none 0 0, .int .i64 v.at_, .int .i64 63]) (by simp [results, Tryd.results12, go_sem]) rfl ?_
            rw [HE2.out, ← HQ3.out]
            exact ⟨rfl, (HF2.out.trans HR.out.far (by simp)).drewN _⟩
          · have de : (v.kind == 3) = false := by rw [beq_eq_false_iff_ne]; exact q2
            rw [q1, if_neg (by decide)] at HE2
            clear q1 q2 HTO2
            go_wp2
            go_quiet (fail)
            go_wp2
            refine bodyPost_ret (v := .tuple #[.slice none 0 0, .slice none 0 0, .int .i64 p.at_, .int .i64 60]) (by simp [results, Tryd.results12, go_sem]) rfl ?_
            rw [HE2.out]
            exact ⟨rfl, (HF2.out.trans HR.out.far (by simp)).drewN _⟩
end
end RM6
end Go.Proofs.YtkhcaejijlaohaaDoor
