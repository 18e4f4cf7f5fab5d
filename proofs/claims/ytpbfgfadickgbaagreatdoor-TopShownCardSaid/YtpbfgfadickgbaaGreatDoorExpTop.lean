/-
  T1's law: a text that is read, shown, and read again, has the same forms. Condition: the numbers' table.
-/
import Derived.Test.YtpbfgfadickgbaaGreatDoorExpTp1
import Derived.Test.YtpbfgfadickgbaaGreatDoorExpL
import Derived.Test.YtpbfgfadickgbaaGreatDoorShowCs
import Derived.Test.YtpbfgfadickgbaaGreatDoorShowMayP
import Derived.Test.YtpbfgfadickgbaaGreatDoorShowTab
import Derived.Test.YtpbfgfadickgbaaGreatDoorWordAll
import Derived.IntWalk
namespace Go.Proofs.YtpbfgfadickgbaaGreatDoor
open Go.RowKit
set_option linter.unusedVariables false
namespace SX
open LX RX EX
theorem toD_toI2 (x : Nd) : toD (toI x) = x := by
  obtain ⟨a, b, c, d, l⟩ := x
  unfold toD toI
  simp only [List.map_map]
  have : l.map (Int.toNat ∘ fun p : Nat => (p : Int)) = l := by
    conv => rhs; rw [← List.map_id l]
    exact List.map_congr_left fun p _ => rfl
  rw [this]
theorem read_names2 {s : ByteArray} {r : Rd} (h : read s = .ok r) : ∀ x ∈ r.row, x.s.size ≤ 32 := by
  have hI := (read_inv (P := fun x => x.s.size ≤ 32) (Q := fun _ => True) (fun _ _ _ _ h => h) (fun _ _ _ => by show (emp).size ≤ 32; decide) h
    (fun _ hl => brings _ _ hl (fun _ _ _ _ => by show (emp).size ≤ 32; decide) (fun _ _ _ => by show (emp).size ≤ 32; decide) (fun t hi hk => by
      have := hi.good.size
      have e : tkB t = t.s := by unfold tkB; simp [hk]
      rw [e] at this
      exact this) (fun _ _ _ _ _ => trivial) (fun _ _ _ => ⟨fun _ _ => trivial, by show quoteB.size ≤ 32; decide⟩))).1
  exact fun x hx => (hI.good x hx).2
theorem read_small2 {s : ByteArray} {r : Rd} (h : read s = .ok r) : ∀ i, i < r.row.length → (dt r.row i).length ≤ 70000000 := by
  have hsz := read_sizes h
  have hok := read_ok_data h
  have e : (r.row.map toI).map toD = r.row := by
    rw [List.map_map]
    conv => rhs; rw [← List.map_id r.row]
    exact List.map_congr_left fun x _ => toD_toI2 x
  have hn := read_names2 h
  obtain ⟨_, _, h3⟩ := may_rows (r.row.map toI) (read_may h) 32 8000 (by omega) (fun x hx => by
    obtain ⟨y, hy, rfl⟩ := List.mem_map.1 hx
    exact hn y hy) (fun x hx => by
    obtain ⟨y, hy, rfl⟩ := List.mem_map.1 hx
    unfold toI
    rw [List.length_map]
    exact hsz.2.2 y hy) (fun x hx => by
    obtain ⟨y, hy, rfl⟩ := List.mem_map.1 hx
    obtain ⟨i, hi, rfl⟩ := List.getElem_of_mem hy
    have := hok.num i hi
    unfold ndAt at this
    rw [List.getD_eq_getElem?_getD, List.getElem?_eq_getElem hi] at this
    exact this)
  rw [e] at h3
  intro i hi
  have h4 := h3 i (by rw [List.length_map]; exact hi)
  have : (i + 1) * (32 + 8000 + 24) ≤ 8000 * 8056 := Nat.mul_le_mul (by omega) (by omega)
  omega
theorem str_two2 (a b : List UInt8) : str a ++ str b = str (a ++ b) := by
  apply ByteArray.ext
  unfold str
  simp
theorem backN_snoc (ns : List Nd) (l : List Nat) (i : Nat) : backN ns (l ++ [i]) = backN ns l ++ (dt ns i ++ [10]) := by
  unfold backN
  rw [List.flatMap_append]
  simp
theorem backN_len (ns : List Nd) (C : Nat) : ∀ l : List Nat, (∀ i ∈ l, (dt ns i).length ≤ C) → (backN ns l).length ≤ l.length * (C + 1) := by
  intro l
  induction l with
  | nil => intro _; simp [backN]
  | cons i l ih =>
    intro h
    have h1 := h i (List.mem_cons_self ..)
    have h2 := ih (fun j hj => h j (List.mem_cons_of_mem _ hj))
    unfold backN at h2 ⊢
    rw [List.flatMap_cons, List.length_append, List.length_append, List.length_singleton, List.length_cons, Nat.succ_mul]
    omega
end SX
namespace SW
open LX RX RW6 SX EX EW
theorem works_any (w : World) : Calls Tryz.prog 4 #[] w fun e w' => e = .returned (.bool true) ∧ w = w' := by
  have h1 : WP.intW 5 = 40 := by decide
  have h2 : WP.intE 5 = 0 := by decide
  have h3 : WP.toIntN 40 = 5 := by decide
  have h4 : WP.toIntB 40 = true := by decide
  have HI := Lib.hid (fun w' => WW.int_any 5 w')
  have HT := Lib.hid (fun w' => WW.toint_any 40 (by unfold WP.U; decide) w')
  rw [h1, h2] at HI
  rw [h3, h4] at HT
  clear h1 h2 h3 h4
  go_enter Tryz.func4, Tryz.ntmps4
  go_wp2_with (first
    | (go_at_call 8; (with_reducible refine (HI.out _).mono ?_); rintro e w1 ⟨rfl, rfl⟩)
    | (go_at_call 9; (with_reducible refine (HT.out _).mono ?_); rintro e w1 ⟨rfl, rfl⟩))
  go_ret
  exact ⟨rfl, rfl⟩
set_option maxHeartbeats 4000000 in
set_option maxRecDepth 20000 in
theorem top_law (s : ByteArray) (w : World) (hT : Tab w) : Calls Tryz.prog 3 #[.string s] w fun e w' => e = .returned (.bool true) ∧ Below w.heap.size w w' := by
  have HW := Lib.hid works_any
  by_cases h5 : 800 < s.size
  · clear hT
    go_enter Tryz.func3, Tryz.ntmps3
    go_wp2_with (go_at_call 4; (with_reducible refine (HW.out _).mono ?_); rintro e w1 ⟨rfl, rfl⟩)
    go_ret
    exact ⟨rfl, (MM.Far.refl [] _).below_nil⟩
  · have H1 := Lib.hid (RC6.read_any s (by omega))
    cases hR : RX.read s with
    | error px =>
      rw [hR] at H1
      obtain ⟨p, x⟩ := px
      have de := read_errne hR
      have de1 : ¬ (x = 0) := by rwa [beq_eq_false_iff_ne] at de
      have de2 : (x != 0) = true := by simp [bne, de]
      clear hR hT
      go_enter Tryz.func3, Tryz.ntmps3
      go_wp2_with (first
        | (go_at_call 5; refine (H1.out _).mono ?_; rintro e w2 ⟨rfl, hF2⟩; have HF2 := Lib.hid hF2; clear hF2)
        | (go_at_call 4; (with_reducible refine (HW.out _).mono ?_); rintro e w1 ⟨rfl, rfl⟩))
      go_ret
      exact ⟨rfl, HF2.out.below_nil⟩
    | ok r =>
      have hsz := read_sizes hR
      rw [hR] at H1
      have hok := read_ok_data hR
      have hsm := read_small2 hR
      have hback := fun hl => back_anyN hR hl
      have hmay := read_may hR
      have htl : ∀ i ∈ r.tops, i < r.row.length := fun i hi => (RX.read_plain hR).1.lt (.inl hi)
      have hrl : r.row.length ≤ 1600 := by have := EX.read_len hR; omega
      obtain ⟨N, hN⟩ : ∃ N, r.row.length = N := ⟨_, rfl⟩
      obtain ⟨M, hM⟩ : ∃ M, r.tops.length = M := ⟨_, rfl⟩
      have HDT := Lib.hid (fun (A : Option Addr) (c : Nat) (wx : World) (hN1 : NdRow wx A r.row) (hTx : Tab wx) (i : Nat) (hi : i ∈ r.tops) => datum_ok (DA := A) (n := N) (c := c) r.row hN (by omega) hok (fun x hx => by have := hsz.2.2 x hx; omega) hmay wx hN1 hTx i (by have := htl i hi; omega) (by have := hsm i (htl i hi); omega))
      have HSM := Lib.hid (fun (i : Nat) (hi : i ∈ r.tops) => hsm i (htl i hi))
      have HCD := Lib.hid (fun (w0 w1 : World) (rv tv : Value) (rs : List (Nd × Value)) (h : Done w0 w1 rv tv rs r.tops) (hrs : rs.map (·.1) = r.row) => code_any hR h hrs (by omega))
      have HTB := Lib.hid (fun (r2 : Rd) h h2 => tops_bare (r2 := r2) hR h h2)
      rw [hN, hM] at hsz
      have HSZ := Lib.hid hsz
      have HB := Lib.hid hback
      have HN := Lib.hid hN
      have HM := Lib.hid hM
      have HT := Lib.hid hT
      have HRL := Lib.hid hrl
      clear hR hsz hok hsm hback hmay htl hN hM hT hrl
      go_enter Tryz.func3, Tryz.ntmps3
      go_wp2_with (first
        | (go_at_call 5; refine (H1.out _).mono ?_; rintro e w2 ⟨rv, tv, rs, rfl, hD, hrs⟩
           have HX1 := Lib.hid (fun (wx : World) (f : MM.Far [] w2 wx) => HCD.out _ _ _ _ _ (hD.to f) hrs)
           obtain ⟨A, c, hrv, -, -, -, hN⟩ := hD.nodes
           obtain ⟨B, d, htv, -, -, -, hI⟩ := hD.tops_row
           have hlen : rs.length = N := by have := congrArg List.length hrs; rw [List.length_map] at this; exact this.trans HN.out
           rw [hlen] at hrv
           rw [HM.out] at htv
           subst hrv htv
           have HN2 := Lib.hid (hrs ▸ hN)
           have HI2 := Lib.hid hI
           have HF2 := Lib.hid hD.far
           clear hD hN hI hrs hlen))
      have HF0 : Hid (MM.Far [] w2 w2) := Lib.hid (MM.Far.refl _ _)
      go_loopw [7, 41] (fun s7 s41 wr => ∃ k : Nat, k ≤ M ∧ s7 = .string (str (backN r.row (r.tops.take k))) ∧ s41 = .int .i64 k ∧ Hid (MM.Far [] w2 wr)) (fun _ s41 _ => M - (intOf s41).toNat)
      case atStart => exact ⟨0, by omega, rfl, rfl, HF0⟩
      case round =>
        obtain ⟨k, hk, rfl, rfl, hF⟩ := hrel
        clear HF0
        have hM8 := HSZ.out.2.1
        have hbl : (str (backN r.row (r.tops.take k))).size ≤ 1000000000000 := by
          rw [str_size]
          have h1 := backN_len r.row 70000000 (r.tops.take k) (fun i hi => HSM.out i (List.mem_of_mem_take hi))
          have h2 : (r.tops.take k).length ≤ 8000 := by
            rw [List.length_take, HM.out]
            have := HSZ.out.2.1
            omega
          have : (r.tops.take k).length * (70000000 + 1) ≤ 8000 * 70000001 := Nat.mul_le_mul h2 (Nat.le_refl _)
          omega
        by_cases hlt : k < M
        · have hk2 : k < r.tops.length := by rw [HM.out]; exact hlt
          obtain ⟨b3, o3, rfl, hb3, y0⟩ := HI2.out k hk2
          have z0 := (hF.out.cell (p := ⟨b3, o3 + k, none⟩) hb3 (by simp)).trans y0
          have HD := Lib.hid (HDT.out A c wr (HN2.out.far hF.out) (HT.out.far (HF2.out.trans hF.out (by simp))) r.tops[k] (List.getElem_mem hk2))
          have hds : (str (dt r.row r.tops[k])).size ≤ 70000000 := by
            rw [str_size]; exact HSM.out _ (List.getElem_mem hk2)
          have HTK : Hid (str (backN r.row (r.tops.take (k + 1))) = str (backN r.row (r.tops.take k)) ++ (str (dt r.row r.tops[k]) ++ ⟨#[10]⟩)) := Lib.hid (by
            rw [List.take_succ_eq_append_getElem hk2, backN_snoc, ← str_two2, ← str_two2]; rfl)
          generalize str (dt r.row r.tops[k]) = D at *
          generalize r.tops[k] = p at *
          clear y0
          go_wp2_with (first
            | (go_at_call 6; ((with_reducible refine HD.out.mono ?_); rintro e w3 ⟨rfl, hF3⟩); have HF3 := Lib.hid hF3; clear hF3))
          go_roundw
          case rel => exact ⟨k + 1, by omega, by rw [HTK.out], by go_num, Lib.hid (hF.out.trans HF3.out (by simp))⟩
          case measure => simp [intOf]; omega
        · obtain rfl : k = M := by omega
          have hall : r.tops.take k = r.tops := List.take_of_length_le (by rw [HM.out]; exact Nat.le_refl _)
          rw [hall] at hbl ⊢
          clear hall
          have H2 := Lib.hid (RC6.read_any (str (backN r.row r.tops)) (by omega))
          by_cases h4 : (backN r.row r.tops).length ≤ 4000
          · obtain ⟨rb, hrb, hal, htp⟩ := HB.out h4
            rw [hrb] at H2
            have hNb : rb.row.length = N := by have := congrArg List.length hal; have h2 := HN.out; simp at this; omega
            have HCD2 := Lib.hid (fun (w0 w1 : World) (rv tv : Value) (rs : List (Nd × Value)) (h : Done w0 w1 rv tv rs rb.tops) (hrs : rs.map (·.1) = rb.row) => code_any hrb h hrs (by have := HRL.out; have := HN.out; omega))
            have hsame := HTB.out rb hal htp
            have HNb := Lib.hid hNb
            have HTP : Hid (rb.tops.length = k) := Lib.hid (by rw [htp]; exact HM.out)
            have h4s : (str (backN r.row r.tops)).size ≤ 4000 := by rw [str_size]; exact h4
            clear hrb hal htp h4 hbl hNb
            generalize str (backN r.row r.tops) = S2 at *
            generalize EX.expand r.row r.tops = X at *
            generalize EX.expand rb.row rb.tops = Y at *
            match X, Y, hsame with
            | .error a, .error b, _ =>
              go_wp2_with (first
                | (go_at_call 5; ((with_reducible refine (H2.out _).mono ?_); rintro e w3 ⟨rv, tv, rs, rfl, hD, hrs⟩)
                   have HX2 := Lib.hid (fun (wx : World) (f : MM.Far [] w3 wx) => HCD2.out _ _ _ _ _ (hD.to f) hrs)
                   obtain ⟨A3, c3, hrv, -, -, -, hN⟩ := hD.nodes
                   obtain ⟨B3, d3, htv, -, -, -, hI⟩ := hD.tops_row
                   have hlen : rs.length = N := by have := congrArg List.length hrs; rw [List.length_map] at this; exact this.trans HNb.out
                   rw [hlen] at hrv
                   rw [HTP.out] at htv
                   subst hrv htv
                   have HF3 := Lib.hid hD.far
                   clear hD hN hI hrs hlen))
              have HFa : Hid (MM.Far [] w2 w3) := Lib.hid (hF.out.trans HF3.out (by simp))
              refine (HX1.out _ HFa.out).mono ?_
              rintro e w4 hX
              obtain ⟨rfl, hF4⟩ : e = .returned (.tuple #[.slice none 0 0, .slice none 0 0, .int .i64 a, .int .i64 80]) ∧ MM.Far [] w3 w4 := hX
              have HF4 := Lib.hid hF4
              clear hF4
              go_wp2_with fail
              refine (HX2.out _ HF4.out).mono ?_
              rintro e w5 hX
              obtain ⟨rfl, hF5⟩ : e = .returned (.tuple #[.slice none 0 0, .slice none 0 0, .int .i64 b, .int .i64 80]) ∧ MM.Far [] w4 w5 := hX
              have HF5 := Lib.hid hF5
              clear hF5
              go_wp2
              go_loop [108] (fun s108 => s108 = .int .i64 0) (fun _ => 0)
              case atStart => exact rfl
              case round =>
                subst hrel
                go_wp2_with (go_at_call 4; (with_reducible refine (HW.out _).mono ?_); rintro e w6 ⟨rfl, rfl⟩)
                go_ret
                exact ⟨rfl, (((HF2.out.trans HFa.out (by simp)).trans HF4.out (by simp)).trans HF5.out (by simp)).below_nil⟩
            | .ok x, .ok y, hxy =>
              obtain ⟨fs, ts⟩ := x
              obtain ⟨fs2, ts2⟩ := y
              obtain ⟨hb, hts⟩ := hxy
              have hts : ts2 = ts := hts
              subst hts
              have hb : fs2.map bareF = fs.map bareF := hb
              obtain ⟨n, hn⟩ : ∃ n, fs.length = n := ⟨_, rfl⟩
              have HNF := Lib.hid hn
              have HNF2 : Hid (fs2.length = n) := Lib.hid (by have := congrArg List.length hb; simp at this; omega)
              have HBF := Lib.hid hb
              clear hb hn
              go_wp2_with (first
                | (go_at_call 5; ((with_reducible refine (H2.out _).mono ?_); rintro e w3 ⟨rv, tv, rs, rfl, hD, hrs⟩)
                   have HX2 := Lib.hid (fun (wx : World) (f : MM.Far [] w3 wx) => HCD2.out _ _ _ _ _ (hD.to f) hrs)
                   obtain ⟨A3, c3, hrv, -, -, -, hN⟩ := hD.nodes
                   obtain ⟨B3, d3, htv, -, -, -, hI⟩ := hD.tops_row
                   have hlen : rs.length = N := by have := congrArg List.length hrs; rw [List.length_map] at this; exact this.trans HNb.out
                   rw [hlen] at hrv
                   rw [HTP.out] at htv
                   subst hrv htv
                   have HF3 := Lib.hid hD.far
                   clear hD hN hI hrs hlen))
              have HFa : Hid (MM.Far [] w2 w3) := Lib.hid (hF.out.trans HF3.out (by simp))
              refine (HX1.out _ HFa.out).mono ?_
              rintro e w4 ⟨fv, tv, rs, rfl, hD, hrs⟩
              obtain ⟨FA, fc, rfl, hfl, hfm, -, hFm⟩ := hD.rows
              obtain ⟨TA, tc, rfl, -, -, -, -⟩ := hD.tops_row
              have hlen : rs.length = n := by have := congrArg List.length hrs; rw [List.length_map] at this; exact this.trans HNF.out
              rw [hlen] at hfl ⊢
              rw [hrs] at hFm
              have HFM := Lib.hid hFm
              have HF4 := Lib.hid hD.far
              have hnm : n ≤ 9223372036854775807 := by unfold maxLen at hfm; omega
              clear hD hrs hFm hlen hfl hfm
              go_wp2_with fail
              refine (HX2.out _ HF4.out).mono ?_
              rintro e w5 ⟨fv, tv, rs, rfl, hD, hrs⟩
              obtain ⟨FB, fd, rfl, -, -, -, hFm⟩ := hD.rows
              obtain ⟨TB, td, rfl, -, -, -, -⟩ := hD.tops_row
              have hlen : rs.length = n := by have := congrArg List.length hrs; rw [List.length_map] at this; exact this.trans HNF2.out
              rw [hlen]
              rw [hrs] at hFm
              have HFM2 := Lib.hid hFm
              have HFM1 := Lib.hid (HFM.out.far hD.far)
              have HF5 := Lib.hid hD.far
              clear hD hrs hFm hlen
              simp only
              generalize ts2.length = tl at *
              go_wp2
              go_loopw [108] (fun s108 wz => ∃ i : Nat, i ≤ n ∧ s108 = .int .i64 i ∧ Hid (MM.Far [] w5 wz)) (fun s108 _ => n - (intOf s108).toNat)
              case atStart => exact ⟨0, by omega, rfl, Lib.hid (MM.Far.refl _ _)⟩
              case round =>
                obtain ⟨i, hi, rfl, hFz⟩ := hrel
                obtain ⟨wz, rfl⟩ : ∃ wz, wz = wr := ⟨_, rfl⟩
                by_cases hlt2 : i < n
                · have hi1 : i < fs.length := by rw [HNF.out]; exact hlt2
                  have hi2 : i < fs2.length := by rw [HNF2.out]; exact hlt2
                  obtain ⟨b1, o1, P1, p1, L1, e1, rfl, hb1, a0, a1, a2, a3, a4, a5, a6, a7, s1, i1⟩ := HFM1.out.far hFz.out i hi1
                  obtain ⟨b2, o2, P2, p2, L2, e2, rfl, hb2, d0, d1, d2, d3, d4, d5, d6, d7, s2, i2⟩ := HFM2.out.far hFz.out i hi2
                  have hxy : bareF fs2[i] = bareF fs[i] := by
                    have h1 := congrArg (·[i]?) HBF.out
                    simpa [hi1, hi2] using h1
                  generalize fs[i] = x at *
                  generalize fs2[i] = y at *
                  obtain ⟨xk, xa, xn, xs, xp, xl⟩ := x
                  obtain ⟨yk, ya, yn, ys, yp, yl⟩ := y
                  simp only [bareF, Fm.mk.injEq] at hxy
                  obtain ⟨rfl, -, rfl, rfl, rfl, rfl⟩ := hxy
                  simp only at a0 a2 a4 a5 a7 d0 d2 d4 d5 d7
                  have hi0 : (0 : Int) ≤ (i : Int) := by omega
                  have hi3 : (i : Int) < (n : Int) := by omega
                  generalize yl.length = ml at *
                  generalize yp.length = mp at *
                  clear hi1 hi2 a1 a3 a6 d1 d3 d6 s1 i1 s2 i2
                  go_wp2
                  go_quiet (fail)
                  go_wp2
                  go_roundw
                  case rel => exact ⟨i + 1, by omega, by go_num, Lib.hid (hFz.out.drewN _)⟩
                  case measure => simp [intOf]; omega
                · obtain rfl : i = n := by omega
                  go_wp2_with (go_at_call 4; (with_reducible refine (HW.out _).mono ?_); rintro e w6 ⟨rfl, rfl⟩)
                  go_ret
                  exact ⟨rfl, ((((HF2.out.trans HFa.out (by simp)).trans HF4.out (by simp)).trans HF5.out (by simp)).trans hFz.out (by simp)).below_nil⟩
            | .error a, .ok y, h => exact h.elim
            | .ok x, .error b, h => exact h.elim
          · have h4s : 4000 < (str (backN r.row r.tops)).size := by rw [str_size]; omega
            have hE : RX.read (str (backN r.row r.tops)) = .error (0, 3) := by
              unfold RX.read LX.lex
              rw [if_pos h4s]; rfl
            rw [hE] at H2
            clear h4 hE
            generalize str (backN r.row r.tops) = S2 at *
            go_wp2_with (first
              | (go_at_call 5; refine (H2.out _).mono ?_; rintro e w3 ⟨rfl, hF3⟩; have HF3 := Lib.hid hF3; clear hF3)
              | (go_at_call 4; (with_reducible refine (HW.out _).mono ?_); rintro e w4 ⟨rfl, rfl⟩))
            go_ret
            exact ⟨rfl, ((HF2.out.trans hF.out (by simp)).trans HF3.out (by simp)).below_nil⟩
end SW
end Go.Proofs.YtpbfgfadickgbaaGreatDoor
