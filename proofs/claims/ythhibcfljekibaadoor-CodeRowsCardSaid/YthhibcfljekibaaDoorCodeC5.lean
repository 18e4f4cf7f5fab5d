/-
  Contract of layer 11's code: may, whether an instruction may be. Conditions: numbers are of their kinds, the program's table of fields, the map of arities.
-/
import Derived.Test.YthhibcfljekibaaDoorCodeAr
namespace Go.Proofs.YthhibcfljekibaaDoor
open Go.RowKit
set_option linter.unusedVariables false
namespace KW
open KP
set_option maxHeartbeats 8000000 in
set_option maxRecDepth 20000 in
theorem may_any (n d : Int) (x : Ki) (hx : Wf x) (mb : Nat) (w : World) (hT : FT w) (hM : MapI w mb arity) :
    Calls Tryd.prog 21 #[.agg #[num n, .map (some mb)], val x, num d] w fun e w' => e = .returned (.bool (may n x d)) ∧ MM.Far [] w w' := by
  obtain ⟨R, hR⟩ : ∃ R, may n x d = R := ⟨_, rfl⟩
  rw [hR]
  unfold may at hR
  have HR := Lib.hid hR
  have HW : Hid (whole x = (decide (1 ≤ x.op) && (decide (x.op ≤ 16) && (!others x && (decide (0 ≤ x.a) && (decide (0 ≤ x.b) && const x.w)))))) := Lib.hid rfl
  have HFi : Hid (fits n x d = if x.op = 10 then decide (0 < x.a) && decide (x.a < n) else if x.op = 11 then arity x.a == some x.b else if x.op = 13 ∨ x.op = 15 ∨ x.op = 16 then d == pops x else true) := Lib.hid rfl
  have HO := Lib.hid (fun k (h1 : x.op = ((k : Nat) : Int)) (h2 : k < 17) W (h : FT W) => others_any x k h1 h2 W h)
  have HC := Lib.hid (fun W => const_any x.w hx.w W)
  have HP := Lib.hid (fun W => pops_any x W)
  have hop0 := hx.op0
  obtain ⟨op, a, b, v⟩ := x
  simp only at HW HFi HO HC hop0
  generalize others ⟨op, a, b, v⟩ = ot at *
  generalize pops ⟨op, a, b, v⟩ = pp at *
  generalize whole ⟨op, a, b, v⟩ = wh at *
  generalize fits n ⟨op, a, b, v⟩ d = fi at *
  generalize const v = cn at *
  show Calls Tryd.prog 21 #[.agg #[num n, .map (some mb)], .agg #[.int .u8 op, .int .i64 a, .int .i64 b, .int .u64 v], num d] w _
  have FA := ((MM.Far.refl [] w).alloc (.cells #[num n, .map (some mb)] 50)).alloc (.cells #[.int .u8 op, .int .i64 a, .int .i64 b, .int .u64 v] 38)
  have HF1 := Lib.hid FA
  have HT1 := Lib.hid (hT.far FA)
  have HM1 := Lib.hid (hM.far FA (by simp))
  have HB1 := Lib.hid ((MM.Row.new w 50 [num n, .map (some mb)]).alloc (.cells #[.int .u8 op, .int .i64 a, .int .i64 b, .int .u64 v] 38))
  have hb2 := MM.Row.new (w.alloc (.cells #[num n, .map (some mb)] 50)) 38 [.int .u8 op, .int .i64 a, .int .i64 b, .int .u64 v]
  rw [World.size_alloc] at hb2
  have HB2 := Lib.hid hb2
  clear hR hT hM hx FA hb2
  go_enter Tryd.func21, Tryd.ntmps21
  go_upto_region 1 with (fail)
  generalize hw1 : (w.alloc (.cells #[num n, .map (some mb)] 50)).alloc (.cells #[.int .u8 op, .int .i64 a, .int .i64 b, .int .u64 v] 38) = w1 at *
  have HB1' : Hid (MM.Row w1 w.heap.size 50 [num n, .map (some mb)]) := HB1
  have HB2' : Hid (MM.Row w1 (w.heap.size + 1) 38 [.int .u8 op, .int .i64 a, .int .i64 b, .int .u64 v]) := HB2
  clear hw1 HB1 HB2
  have x0 : w1.cell? ⟨w.heap.size + 1, 0, none⟩ = some (.int .u8 op) := HB2'.out.at (i := 0) rfl
  have x1 : w1.cell? ⟨w.heap.size + 1, 1, none⟩ = some (.int .i64 a) := HB2'.out.at (i := 1) rfl
  have x2 : w1.cell? ⟨w.heap.size + 1, 2, none⟩ = some (.int .i64 b) := HB2'.out.at (i := 2) rfl
  have x3 : w1.cell? ⟨w.heap.size + 1, 3, none⟩ = some (.int .u64 v) := HB2'.out.at (i := 3) rfl
  by_cases h1 : op < 1
  · obtain rfl : R = false := by rw [← HR.out, HW.out, decide_eq_false (by omega)]; rfl
    go_wp2_with (fail)
    go_ret
    exact ⟨rfl, HF1.out⟩
  by_cases h2 : 16 < op
  · obtain rfl : R = false := by rw [← HR.out, HW.out, decide_eq_false (p := op ≤ 16) (by omega), Bool.false_and, Bool.and_false]; rfl
    go_wp2_with (fail)
    go_ret
    exact ⟨rfl, HF1.out⟩
  obtain ⟨k, rfl⟩ : ∃ k : Nat, op = k := ⟨op.toNat, by omega⟩
  have HO2 := Lib.hid (HO.out k rfl (by omega) w1 HT1.out)
  clear HO
  have HR2 : Hid (((!ot && (decide (0 ≤ a) && (decide (0 ≤ b) && cn))) && fi) = R) := Lib.hid (by rw [← HR.out, HW.out, decide_eq_true (p := (1 : Int) ≤ k) (by omega), decide_eq_true (p := (k : Int) ≤ 16) (by omega), Bool.true_and, Bool.true_and])
  clear HR HW
  cases ot with
  | true =>
    obtain rfl : R = false := HR2.out.symm
    go_wp2_with (first
      | (go_at_call 28
         refine HO2.out.mono ?_
         rintro e w3 ⟨rfl, hF3⟩))
    go_ret
    exact ⟨rfl, HF1.out.trans hF3 (by simp)⟩
  | false =>
    by_cases ha : a < 0
    · obtain rfl : R = false := by rw [← HR2.out, decide_eq_false (p := (0 : Int) ≤ a) (by omega)]; rfl
      go_wp2_with (first
        | (go_at_call 28
           refine HO2.out.mono ?_
           rintro e w3 ⟨rfl, hF3⟩
           have hB3 := HB2'.out.far hF3 (by simp)
           have y1 : w3.cell? ⟨w.heap.size + 1, 1, none⟩ = some (.int .i64 a) := hB3.at (i := 1) rfl))
      go_ret
      exact ⟨rfl, HF1.out.trans hF3 (by simp)⟩
    by_cases hb : b < 0
    · obtain rfl : R = false := by rw [← HR2.out, decide_eq_false (p := (0 : Int) ≤ b) (by omega), Bool.false_and, Bool.and_false]; rfl
      go_wp2_with (first
        | (go_at_call 28
           refine HO2.out.mono ?_
           rintro e w3 ⟨rfl, hF3⟩
           have hB3 := HB2'.out.far hF3 (by simp)
           have y1 : w3.cell? ⟨w.heap.size + 1, 1, none⟩ = some (.int .i64 a) := hB3.at (i := 1) rfl
           have y2 : w3.cell? ⟨w.heap.size + 1, 2, none⟩ = some (.int .i64 b) := hB3.at (i := 2) rfl))
      go_ret
      exact ⟨rfl, HF1.out.trans hF3 (by simp)⟩
    have HR3 : Hid ((cn && fi) = R) := Lib.hid (by rw [← HR2.out, decide_eq_true (p := (0 : Int) ≤ a) (by omega), decide_eq_true (p := (0 : Int) ≤ b) (by omega)]; simp)
    clear HR2
    cases cn with
    | false =>
      obtain rfl : R = false := HR3.out.symm
      go_wp2_with (first
        | (go_at_call 28
           refine HO2.out.mono ?_
           rintro e w3 ⟨rfl, hF3⟩
           have hB3 := HB2'.out.far hF3 (by simp)
           have y0 : w3.cell? ⟨w.heap.size + 1, 0, none⟩ = some (.int .u8 k) := hB3.at (i := 0) rfl
           have y1 : w3.cell? ⟨w.heap.size + 1, 1, none⟩ = some (.int .i64 a) := hB3.at (i := 1) rfl
           have y2 : w3.cell? ⟨w.heap.size + 1, 2, none⟩ = some (.int .i64 b) := hB3.at (i := 2) rfl
           have y3 : w3.cell? ⟨w.heap.size + 1, 3, none⟩ = some (.int .u64 v) := hB3.at (i := 3) rfl
           have hC3 := HB1'.out.far hF3 (by simp)
           have z0 : w3.cell? ⟨w.heap.size, 0, none⟩ = some (num n) := hC3.at (i := 0) rfl
           have z1 : w3.cell? ⟨w.heap.size, 1, none⟩ = some (.map (some mb)) := hC3.at (i := 1) rfl
           have HM3 := Lib.hid (HM1.out.far hF3 (by simp))
           have HF3 := Lib.hid (HF1.out.trans hF3 (by simp))
           clear hF3 hB3 hC3)
        | (go_at_call 29
           refine (HC.out _).mono ?_
           rintro e w4 ⟨rfl, rfl⟩))
      go_ret
      exact ⟨rfl, HF3.out⟩
    | true =>
      obtain rfl : fi = R := HR3.out
      go_upto_if 36 with (first
        | (go_at_call 28
           refine HO2.out.mono ?_
           rintro e w3 ⟨rfl, hF3⟩
           have hB3 := HB2'.out.far hF3 (by simp)
           have y0 : w3.cell? ⟨w.heap.size + 1, 0, none⟩ = some (.int .u8 k) := hB3.at (i := 0) rfl
           have y1 : w3.cell? ⟨w.heap.size + 1, 1, none⟩ = some (.int .i64 a) := hB3.at (i := 1) rfl
           have y2 : w3.cell? ⟨w.heap.size + 1, 2, none⟩ = some (.int .i64 b) := hB3.at (i := 2) rfl
           have y3 : w3.cell? ⟨w.heap.size + 1, 3, none⟩ = some (.int .u64 v) := hB3.at (i := 3) rfl
           have hC3 := HB1'.out.far hF3 (by simp)
           have z0 : w3.cell? ⟨w.heap.size, 0, none⟩ = some (num n) := hC3.at (i := 0) rfl
           have z1 : w3.cell? ⟨w.heap.size, 1, none⟩ = some (.map (some mb)) := hC3.at (i := 1) rfl
           have HM3 := Lib.hid (HM1.out.far hF3 (by simp))
           have HF3 := Lib.hid (HF1.out.trans hF3 (by simp))
           clear hF3 hB3 hC3)
        | (go_at_call 29
           refine (HC.out _).mono ?_
           rintro e w4 ⟨rfl, rfl⟩))
      clear HR3 x0 x1 x2 x3
      by_cases h10 : k = 10
      · subst h10
        have HFi2 : Hid (fi = (decide (0 < a) && decide (a < n))) := Lib.hid (by have := HFi.out; rw [if_pos (show ((10 : Nat) : Int) = 10 from rfl)] at this; exact this)
        clear HFi
        by_cases ha1 : 0 < a
        · go_wp2_with (fail)
          go_ret
          refine ⟨?_, HF3.out⟩
          rw [HFi2.out, decide_eq_true ha1]; rfl
        · go_wp2_with (fail)
          go_ret
          refine ⟨?_, HF3.out⟩
          rw [HFi2.out, decide_eq_false (p := 0 < a) (by omega)]; rfl
      by_cases h11 : k = 11
      · subst h11
        have HFi2 : Hid (fi = (arity a == some b)) := Lib.hid (by have := HFi.out; rw [if_neg (show ¬ ((11 : Nat) : Int) = 10 by decide), if_pos (show ((11 : Nat) : Int) = 11 from rfl)] at this; exact this)
        clear HFi
        have hlk := HM3.out.look a
        cases hq : arity a with
        | none =>
          rw [hq] at hlk HFi2
          clear hq
          go_wp2_with (fail)
          go_ret
          refine ⟨?_, HF3.out⟩
          rw [HFi2.out]; rfl
        | some m =>
          rw [hq] at hlk HFi2
          clear hq
          go_wp2_with (fail)
          go_ret
          refine ⟨?_, HF3.out⟩
          rw [HFi2.out]
          by_cases e : b = m
          · subst e; simp
          · have e1 : (b == m) = false := by simpa using e
            have e2 : (m == b) = false := by simpa using Ne.symm e
            show Ending.returned (.bool (b == m)) = .returned (.bool (m == b))
            rw [e1, e2]
      have e10 : ((k : Int) == 10) = false := by simp; omega
      have e11 : ((k : Int) == 11) = false := by simp; omega
      by_cases h13 : (k : Int) = 13 ∨ (k : Int) = 15 ∨ (k : Int) = 16
      · have HFi2 : Hid (fi = (d == pp)) := Lib.hid (by have := HFi.out; rw [if_neg (by omega), if_neg (by omega), if_pos h13] at this; exact this)
        clear HFi
        rcases (show k = 13 ∨ k = 15 ∨ k = 16 by omega) with rfl | rfl | rfl
        all_goals
          go_wp2_with (first
            | (go_at_call 23
               refine (HP.out _).mono ?_
               rintro e w5 ⟨rfl, rfl⟩))
          go_ret
          refine ⟨?_, HF3.out.alloc _⟩
          rw [HFi2.out]; rfl
      · have HFi2 : Hid (fi = true) := Lib.hid (by have := HFi.out; rw [if_neg (by omega), if_neg (by omega), if_neg h13] at this; exact this)
        have e13 : ((k : Int) == 13) = false := by simp; omega
        have e15 : ((k : Int) == 15) = false := by simp; omega
        have e16 : ((k : Int) == 16) = false := by simp; omega
        clear HFi
        go_wp2_with (fail)
        go_ret
        refine ⟨?_, HF3.out⟩
        rw [HFi2.out]; rfl
end KW
end Go.Proofs.YthhibcfljekibaaDoor
