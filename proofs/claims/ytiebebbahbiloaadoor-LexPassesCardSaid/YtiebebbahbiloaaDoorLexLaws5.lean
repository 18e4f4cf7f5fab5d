/-
  P5.2's law of what is passed over. No condition.
-/
import Derived.Test.YtiebebbahbiloaaDoorLexPad
namespace Go.Proofs.YtiebebbahbiloaaDoor
open Go.RowKit
namespace LW
open LX
theorem pad_at (q : Nat) (h : q < 4) : ([.string ⟨#[32]⟩, .string ⟨#[9]⟩, .string ⟨#[10]⟩, .string ⟨#[59, 32, 40, 32, 120, 10]⟩] : List Value)[q]? = some (.string (pad q)) := by
  have : q = 0 ∨ q = 1 ∨ q = 2 ∨ q = 3 := by omega
  rcases this with rfl | rfl | rfl | rfl <;> rfl
set_option maxRecDepth 20000 in
set_option maxHeartbeats 4000000 in
theorem passes_any (s : ByteArray) (n kind : Nat) (hn : n ≤ 255) (hkd : kind ≤ 255) (w : World) : Calls Tryd.prog 5 #[.string s, .int .u8 n, .int .u8 kind] w fun e w' => e = .returned (.bool true) ∧ Below w.heap.size w w' := by
  have HS := Lib.hid shown_any
  by_cases h5 : 1000 < s.size
  · go_enter Tryd.func5, Tryd.ntmps5
    go_wp2_with (go_at_call 9; refine (HS.out _).mono ?_; rintro e w1 ⟨rfl, hF1⟩)
    go_ret
    exact ⟨rfl, hF1.below_nil⟩
  · obtain ⟨m, hm⟩ : ∃ m, n % 9 = m := ⟨_, rfl⟩
    have hm8 : m ≤ 8 := by omega
    have hm9 : (n : Int) % 9 = (m : Int) := by omega
    obtain ⟨q, hq⟩ : ∃ q, kind % 4 = q := ⟨_, rfl⟩
    have hq4 : q < 4 := by omega
    have hkq : (kind : Int) % 4 = (q : Int) := by omega
    have HQ := Lib.hid hq4
    clear hm hq
    go_enter Tryd.func5, Tryd.ntmps5
    go_wp2_with (go_at_call 9; refine (HS.out _).mono ?_; rintro e w1 ⟨rfl, hF1⟩; have HF1 := Lib.hid hF1; clear hF1)
    go_loopw [8, 27] (fun s8 s27 wr => ∃ k : Nat, k ≤ m ∧ s8 = .string (pads q k) ∧ s27 = .int .u8 k ∧ Hid (MM.Far [] w wr)) (fun _ s27 _ => m - (intOf s27).toNat)
    case atStart => exact ⟨0, by omega, rfl, rfl, HF1⟩
    case round =>
      obtain ⟨k, hk, rfl, rfl, hF⟩ := hrel
      by_cases hlt : k < m
      · have hR := MM.Row.new wr 9 [.string ⟨#[32]⟩, .string ⟨#[9]⟩, .string ⟨#[10]⟩, .string ⟨#[59, 32, 40, 32, 120, 10]⟩]
        have hcell := hR.at (pad_at q HQ.out)
        have hz1 : (pads q k).size ≤ 48 := by have := pads_size q k; omega
        have hz2 := pad_size q
        clear hR
        go_wp2
        go_roundw
        case rel => exact ⟨k + 1, by omega, rfl, by go_num, Lib.hid (hF.out.alloc _)⟩
        case measure => simp [intOf]; omega
      · obtain rfl : k = m := by omega
        have hpz : (pads q k).size ≤ 48 := by have := pads_size q k; omega
        have HJ := Lib.hid (pass_facts s (pads q k) (by omega) hpz (pads_pass q k))
        generalize pads q k = P at *
        have hs1 : s.size ≤ 1000 := by omega
        obtain ⟨y1, hy1⟩ : ∃ y, P ++ s = y := ⟨_, rfl⟩
        obtain ⟨y2, hy2⟩ : ∃ y, s ++ ⟨#[10]⟩ ++ P = y := ⟨_, rfl⟩
        have hys1 : y1.size ≤ 1048 := by rw [← hy1, size_append]; omega
        have hys2 : y2.size ≤ 1049 := by rw [← hy2, size_append, size_append]; show s.size + 1 + P.size ≤ 1049; omega
        rw [hy1, hy2] at HJ
        have HY1 := Lib.hid hy1
        have HY2 := Lib.hid hy2
        have H1 := Lib.hid (lex_q s (by omega))
        have H2 := Lib.hid (lex_q y1 (by omega))
        have H3 := Lib.hid (lex_q y2 (by omega))
        clear hy1 hy2 hkq hq4 HQ hk
        obtain ⟨R, hR⟩ : ∃ R, LX.lex s = R := ⟨_, rfl⟩
        cases R with
        | error pe =>
          obtain ⟨p, x⟩ := pe
          have de := lex_errne hR
          have de1 : ¬ (x = 0) := by rwa [beq_eq_false_iff_ne] at de
          have de2 : (x != 0) = true := by simp [bne, de]
          have hp1 := lex_errpos hR
          obtain ⟨r1, r2⟩ := HJ.out.1 p x hR
          rw [hR] at H1
          rw [r1] at H2
          rw [r2] at H3
          have hpos : (((p + P.size : Nat) : Int)) = (p : Int) + P.size := by omega
          unfold LexQ at H2
          simp only [hpos] at H2
          clear hR r1 r2 hpos HJ
          go_wp2_with (first
            | (go_at_call 10; refine Calls.mono (call_at (s := y2) (by with_reducible exact HY2.out.symm) (H3.out _)) ?_; rintro e w4 ⟨hF4, A3, c3, rfl, -⟩; have HF4 := Lib.hid hF4; clear hF4)
            | (go_at_call 10; refine Calls.mono (call_at (s := y1) (by with_reducible exact HY1.out.symm) (H2.out _)) ?_; rintro e w3 ⟨hF3, A2, c2, rfl, -⟩; have HF3 := Lib.hid hF3; clear hF3)
            | (go_at_call 10; refine Calls.mono (call_at (s := s) (by with_reducible rfl) (H1.out _)) ?_; rintro e w2 ⟨hF2, A1, c1, rfl, -⟩; have HF2 := Lib.hid hF2; clear hF2))
          go_ret
          exact ⟨rfl, (((hF.out.trans HF2.out (by simp)).trans HF3.out (by simp)).trans HF4.out (by simp)).below_nil⟩
        | ok ts =>
          obtain ⟨r1, r2⟩ := HJ.out.2 ts hR
          have hlen := (lex_len hR).1
          have HLT := Lib.hid (lex_at hR)
          rw [hR] at H1
          rw [r1] at H2
          rw [r2] at H3
          obtain ⟨nt, hnt⟩ : ∃ n, ts.length = n := ⟨_, rfl⟩
          have HNT := Lib.hid hnt
          have hnt2 : (ts.map (shiftT P.size)).length = nt := by rw [List.length_map]; exact hnt
          unfold LexQ at H1 H2 H3
          simp only [hnt] at H1 H3
          simp only [hnt2] at H2
          rw [hnt] at hlen
          clear hR r1 r2 hnt hnt2 HJ
          go_wp2_with (first
            | (go_at_call 10; refine Calls.mono (call_at (s := y2) (by with_reducible exact HY2.out.symm) (H3.out _)) ?_; rintro e w4 ⟨hF4, A3, c3, rfl, -, -, -, h4⟩; have HF4 := Lib.hid hF4; have HT3 := Lib.hid (TkRow.of_src h4); clear hF4 h4)
            | (go_at_call 10; refine Calls.mono (call_at (s := y1) (by with_reducible exact HY1.out.symm) (H2.out _)) ?_; rintro e w3 ⟨hF3, A2, c2, rfl, -, -, -, h4⟩; have HF3 := Lib.hid hF3; have HT2 := Lib.hid (TkRow.of_src h4); clear hF3 h4)
            | (go_at_call 10; refine Calls.mono (call_at (s := s) (by with_reducible rfl) (H1.out _)) ?_; rintro e w2 ⟨hF2, A1, c1, rfl, -, -, -, h4⟩; have HF2 := Lib.hid hF2; have HT1 := Lib.hid (TkRow.of_src h4); clear hF2 h4))
          have HT1' := Lib.hid (HT1.out.far (HF3.out.trans HF4.out (by simp)))
          have HT2' := Lib.hid (HT2.out.far HF4.out)
          have HFa := Lib.hid (((hF.out.trans HF2.out (by simp)).trans HF3.out (by simp)).trans HF4.out (by simp))
          clear HT1 HT2 HF2 HF3 HF4 H1 H2 H3 hF
          go_loopw [95] (fun s95 wr => ∃ j : Nat, j ≤ nt ∧ s95 = .int .i64 j ∧ Hid (MM.Far [] w4 wr)) (fun s95 _ => nt - (intOf s95).toNat)
          case atStart => exact ⟨0, by omega, rfl, Lib.hid (MM.Far.refl _ _)⟩
          case round =>
            obtain ⟨j, hj, rfl, hF5⟩ := hrel
            by_cases hlt : j < nt
            · have hj2 : j < ts.length := by rw [HNT.out]; exact hlt
              have hj3 : j < (ts.map (shiftT P.size)).length := by rw [List.length_map]; exact hj2
              obtain ⟨b1, o1, rfl, hb1, a0, a1, a2, a3⟩ := (HT1'.out.far hF5.out) j hj2
              obtain ⟨b2, o2, rfl, hb2, d0, d1, d2, d3⟩ := (HT2'.out.far hF5.out) j hj3
              obtain ⟨b3, o3, rfl, hb3, f0, f1, f2, f3⟩ := (HT3.out.far hF5.out) j hj2
              have hat := HLT.out _ (List.getElem_mem hj2)
              simp only [List.getElem_map] at d0 d1 d2 d3
              generalize ts[j] = t at *
              obtain ⟨kd, at_, nn2, ss⟩ := t
              simp only [shiftT] at a0 a1 a2 a3 d0 d1 d2 d3 f0 f1 f2 f3 hat
              clear hj2 hj3
              go_wp2
              go_quiet (fail)
              go_wp2
              go_roundw
              case rel => exact ⟨j + 1, by omega, by go_num, Lib.hid ((hF5.out.alloc _).drewN nq)⟩
              case measure => simp [intOf]; omega
            · obtain rfl : j = nt := by omega
              go_wp2
              go_ret
              exact ⟨rfl, (HFa.out.trans hF5.out (by simp)).below_nil⟩
theorem passes_to (s : ByteArray) (n kind : Int) (w : World) (hn : (Lit.int .u8 n).wf = true) (hk : (Lit.int .u8 kind).wf = true) : Calls Tryd.prog 5 #[.string s, .int .u8 n, .int .u8 kind] w fun e w' => e = .returned (.bool true) ∧ Below w.heap.size w w' := by
  have h1 : 0 ≤ n ∧ n ≤ 255 := by simp [Lit.wf, IntKind.min, IntKind.max, IntKind.signed, IntKind.bits] at hn; omega
  have h2 : 0 ≤ kind ∧ kind ≤ 255 := by simp [Lit.wf, IntKind.min, IntKind.max, IntKind.signed, IntKind.bits] at hk; omega
  obtain ⟨m, rfl⟩ := Int.eq_ofNat_of_zero_le h1.1
  obtain ⟨q, rfl⟩ := Int.eq_ofNat_of_zero_le h2.1
  exact passes_any s m q (by omega) (by omega) w
end LW
end Go.Proofs.YtiebebbahbiloaaDoor
