/-
  Layer 8's law of many parts. No condition.
-/
import Derived.Test.YtpbfgfadickgbaaExpLong2
namespace Go.Proofs.Ytpbfgfadickgbaa
open Go.RowKit
namespace EW
open LX SX RW6 EX
theorem long_facts {k : Nat} (h1 : 1 ≤ k) (h2 : k ≤ 30) : cntK (ofM (andK k)) 4 = k ∧ cntK (ofM (andK k)) 5 = k - 1 ∧ cntK (ofM (orK k)) 6 = k - 1 ∧ cntK (ofM (orK k)) 10 = k - 1 ∧ cntK (ofM (orK k)) 5 = k - 1 ∧ cntK (ofM (orK k)) 4 = k + 2 * (k - 1) ∧
    cntK (ofM (condK k)) 5 = k ∧ cntK (ofM (condK k)) 1 = k + 1 ∧ cntK (ofM (starK k)) 6 = k ∧ cntK (ofM (starK k)) 10 = k ∧ cntK (ofM (starK k)) 4 = k + 1 := by
  have := long_all k h1 h2
  unfold longB at this
  simpa only [Bool.and_eq_true, beq_iff_eq, and_assoc] using this
set_option maxRecDepth 20000 in
set_option maxHeartbeats 4000000 in
theorem long_any (n : Nat) (w : World) : Calls Try.prog 6 #[.int .u8 n] w fun e w' => e = .returned (.bool true) ∧ Below w.heap.size w w' := by
  obtain ⟨j, hj⟩ : ∃ j, n % 30 = j := ⟨_, rfl⟩
  have hj30 : j < 30 := by omega
  have hnj : (n : Int) % 30 = (j : Int) := by omega
  have HS := Lib.hid shown_any
  have hjc : ((j + 1 : Nat) : Int) = (j : Int) + 1 := by omega
  have HA : Hid (∀ (w' : World) (b : Nat), w'.cell? ⟨b, 0, none⟩ = some (.int .i64 ((j : Int) + 1)) → Calls Try.prog 14 #[.string ⟨#[40, 97, 110, 100, 32]⟩, .string ⟨#[120, 32]⟩, .string ⟨#[41]⟩, .pointer (some ⟨b, 0, none⟩)] w' (LongQ w' (andK (j + 1)))) := Lib.hid (fun w' b hb => long1_any w' ⟨#[40, 97, 110, 100, 32]⟩ ⟨#[120, 32]⟩ ⟨#[41]⟩ (j + 1) b (by omega) (show 5 + (j + 1) * 2 + 1 ≤ 3000 by omega) (by rw [hjc]; exact hb))
  have HO : Hid (∀ (w' : World) (b : Nat), w'.cell? ⟨b, 0, none⟩ = some (.int .i64 ((j : Int) + 1)) → Calls Try.prog 14 #[.string ⟨#[40, 111, 114, 32]⟩, .string ⟨#[120, 32]⟩, .string ⟨#[41]⟩, .pointer (some ⟨b, 0, none⟩)] w' (LongQ w' (orK (j + 1)))) := Lib.hid (fun w' b hb => long1_any w' ⟨#[40, 111, 114, 32]⟩ ⟨#[120, 32]⟩ ⟨#[41]⟩ (j + 1) b (by omega) (show 4 + (j + 1) * 2 + 1 ≤ 3000 by omega) (by rw [hjc]; exact hb))
  have HC : Hid (∀ (w' : World) (b : Nat), w'.cell? ⟨b, 0, none⟩ = some (.int .i64 ((j : Int) + 1)) → Calls Try.prog 14 #[.string ⟨#[40, 99, 111, 110, 100, 32]⟩, .string ⟨#[40, 120, 32, 49, 41, 32]⟩, .string ⟨#[40, 101, 108, 115, 101, 32, 50, 41, 41]⟩, .pointer (some ⟨b, 0, none⟩)] w' (LongQ w' (condK (j + 1)))) := Lib.hid (fun w' b hb => long1_any w' ⟨#[40, 99, 111, 110, 100, 32]⟩ ⟨#[40, 120, 32, 49, 41, 32]⟩ ⟨#[40, 101, 108, 115, 101, 32, 50, 41, 41]⟩ (j + 1) b (by omega) (show 6 + (j + 1) * 6 + 9 ≤ 3000 by omega) (by rw [hjc]; exact hb))
  have HL : Hid (∀ (w' : World) (b : Nat), w'.cell? ⟨b, 0, none⟩ = some (.int .i64 ((j : Int) + 1)) → Calls Try.prog 14 #[.string ⟨#[40, 108, 101, 116, 42, 32, 40]⟩, .string ⟨#[40, 121, 32, 120, 41, 32]⟩, .string ⟨#[41, 32, 121, 41]⟩, .pointer (some ⟨b, 0, none⟩)] w' (LongQ w' (starK (j + 1)))) := Lib.hid (fun w' b hb => long1_any w' ⟨#[40, 108, 101, 116, 42, 32, 40]⟩ ⟨#[40, 121, 32, 120, 41, 32]⟩ ⟨#[41, 32, 121, 41]⟩ (j + 1) b (by omega) (show 7 + (j + 1) * 6 + 4 ≤ 3000 by omega) (by rw [hjc]; exact hb))
  have HFA := Lib.hid (long_facts (k := j + 1) (by omega) (by omega))
  have e0 : (0 : Int) ≤ (n : Int) % 30 := by omega
  have e00 : (n : Int) % 30 ≤ 29 := by omega
  have hj0 : (0 : Int) ≤ (j : Int) := by omega
  have hj29 : (j : Int) ≤ 29 := by omega
  clear hj hjc
  go_enter Try.func6, Try.ntmps6
  go_wp2_with (go_at_call 7; (with_reducible refine (HS.out _).mono ?_); rintro e w1 ⟨rfl, hF1⟩; have HF1 := Lib.hid hF1; clear hF1)
  have hB := MM.Row.new w1 3 [.int .i64 ((j : Int) + 1)]
  have HB1 := Lib.hid hB
  have HFB := Lib.hid ((MM.Far.refl [] w1).alloc (.cells #[.int .i64 ((j : Int) + 1)] 3))
  refine (HA.out _ _ (hB.at (i := 0) rfl)).mono ?_
  rintro e w2 ⟨mA, rfl, hMA, hF2⟩
  have HMA := Lib.hid hMA
  have HF2 := Lib.hid hF2
  have HB2 := Lib.hid (hB.far hF2 (by simp))
  clear hB hMA hF2
  go_wp2_with fail
  refine (HO.out _ _ (HB2.out.at (i := 0) rfl)).mono ?_
  rintro e w3 ⟨mO, rfl, hMO, hF3⟩
  have HMO := Lib.hid hMO
  have HF3 := Lib.hid hF3
  have HB3 := Lib.hid (HB2.out.far hF3 (by simp))
  clear hMO hF3
  go_wp2_with fail
  refine (HC.out _ _ (HB3.out.at (i := 0) rfl)).mono ?_
  rintro e w4 ⟨mC, rfl, hMC, hF4⟩
  have HMC := Lib.hid hMC
  have HF4 := Lib.hid hF4
  have HB4 := Lib.hid (HB3.out.far hF4 (by simp))
  clear hMC hF4
  go_wp2_with fail
  refine (HL.out _ _ (HB4.out.at (i := 0) rfl)).mono ?_
  rintro e w5 ⟨mL, rfl, hML, hF5⟩
  have HF5 := Lib.hid hF5
  have c4 := (HB4.out.far hF5 (by simp)).at (i := 0) rfl
  have LA := fun k => ((HMA.out.far HF3.out).far HF4.out |>.far HF5.out).look k
  have LO := fun k => ((HMO.out.far HF4.out).far HF5.out).look k
  have LC := fun k => (HMC.out.far HF5.out).look k
  have LL := fun k => hML.look k
  obtain ⟨f1, f2, f3, f4, f5, f6, f7, f8, f9, f10, f11⟩ := HFA.out
  have a1 := LA 4
  have a2 := LA 5
  have a3 := LO 6
  have a4 := LO 10
  have a5 := LO 5
  have a6 := LO 4
  have a7 := LC 5
  have a8 := LC 1
  have a9 := LL 6
  have a10 := LL 10
  have a11 := LL 4
  rw [f1, show ((j + 1 : Nat) : Int) = (j : Int) + 1 by omega] at a1
  rw [f2, show ((j + 1 - 1 : Nat) : Int) = (j : Int) by omega] at a2
  rw [f3, show ((j + 1 - 1 : Nat) : Int) = (j : Int) by omega] at a3
  rw [f4, show ((j + 1 - 1 : Nat) : Int) = (j : Int) by omega] at a4
  rw [f5, show ((j + 1 - 1 : Nat) : Int) = (j : Int) by omega] at a5
  rw [f6, show ((j + 1 + 2 * (j + 1 - 1) : Nat) : Int) = (j : Int) + 1 + 2 * (j : Int) by omega] at a6
  rw [f7, show ((j + 1 : Nat) : Int) = (j : Int) + 1 by omega] at a7
  rw [f8, show ((j + 1 + 1 : Nat) : Int) = (j : Int) + 1 + 1 by omega] at a8
  rw [f9, show ((j + 1 : Nat) : Int) = (j : Int) + 1 by omega] at a9
  rw [f10, show ((j + 1 : Nat) : Int) = (j : Int) + 1 by omega] at a10
  rw [f11, show ((j + 1 + 1 : Nat) : Int) = (j : Int) + 1 + 1 by omega] at a11
  have HX : Hid (MM.Far [] w w5) := Lib.hid (((((HF1.out.trans HFB.out (by simp)).trans HF2.out (by simp)).trans HF3.out (by simp)).trans HF4.out (by simp)).trans HF5.out (by simp))
  clear LA LO LC LL hF5 hML f1 f2 f3 f4 f5 f6 f7 f8 f9 f10 f11 HFA HA HO HC HL HS
  go_wp2
  go_ret
  exact ⟨rfl, HX.out.below_nil⟩
theorem long_law (a : Int) (h : (Lit.int .u8 a).wf = true) (w : World) : Calls Try.prog 6 #[.int .u8 a] w fun e w' => e = .returned (.bool true) ∧ Below w.heap.size w w' := by
  obtain ⟨n, rfl⟩ : ∃ n : Nat, (n : Int) = a := ⟨a.toNat, by
    simp [Lit.wf, IntKind.min, IntKind.max, IntKind.signed, IntKind.bits] at h
    omega⟩
  exact long_any n w
end EW
end Go.Proofs.Ytpbfgfadickgbaa
