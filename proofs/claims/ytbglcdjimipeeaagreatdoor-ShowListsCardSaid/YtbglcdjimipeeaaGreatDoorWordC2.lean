/-
  Contract of the printer's word and pair. Conditions: the arena's rows are as the list says; what the names' table tells; the numbers' table.
-/
import Derived.Test.YtbglcdjimipeeaaGreatDoorWordC1
import Derived.Deep.LoopGhost
namespace Go.Proofs.YtbglcdjimipeeaaGreatDoor
open Go.RowKit
namespace SX
open LX
/-- A word behind a text; or what follows a Pair's first word. f: how far it goes at most. -/
def wrt (tS : Int → ByteArray) (tB : Int → Bool) (ts : List AP.Th) : Nat → Bool → List UInt8 → Int → Except (List UInt8) (List UInt8)
  | 0, _, T, _ => .error T
  | f + 1, m, T, x =>
    if prB ts x = true then
      match ad T (if m = true then [32] else [40]) with
      | .error e => .error e
      | .ok T1 => match wrt tS tB ts f false T1 (AW.getW ts x 0) with
        | .error e => .error e
        | .ok T2 => wrt tS tB ts f true T2 (AW.getW ts x 1)
    else if m = false then ad T (sg tS tB ts x)
    else if x = 2 then ad T [41]
    else match ad T [32, 46, 32] with
      | .error e => .error e
      | .ok T1 => match ad T1 (sg tS tB ts x) with
        | .error e => .error e
        | .ok T2 => ad T2 [41]
theorem ad_ok {T s T1 : List UInt8} (h : ad T s = .ok T1) : T1 = T ++ s ∧ T1.length ≤ 120 ∧ T.length + s.length = T1.length := by
  unfold ad at h
  split at h
  · cases h
  · injection h with h
    subst h
    exact ⟨rfl, by omega, by rw [List.length_append]⟩
theorem ad_err {T s E : List UInt8} (h : ad T s = .error E) : E = T ++ s ∧ 120 < E.length := by
  unfold ad at h
  split at h
  · injection h with h
    subst h
    exact ⟨rfl, by omega⟩
  · cases h
theorem wr_ok {tS : Int → ByteArray} {tB : Int → Bool} {ts : List AP.Th} : ∀ (f : Nat) (m : Bool) (T : List UInt8) (x : Int) (T1 : List UInt8), wrt tS tB ts f m T x = .ok T1 → T1.length ≤ 120 ∧ ∃ U, T1 = T ++ U := by
  intro f
  induction f with
  | zero => intro m T x T1 h; cases h
  | succ f ih =>
    intro m T x T1 h
    unfold wrt at h
    split at h
    · split at h
      · cases h
      · rename_i T2 h2
        split at h
        · cases h
        · rename_i T3 h3
          obtain ⟨e2, _, _⟩ := ad_ok h2
          obtain ⟨_, U3, e3⟩ := ih _ _ _ _ h3
          obtain ⟨l4, U4, e4⟩ := ih _ _ _ _ h
          exact ⟨l4, _, by rw [e4, e3, e2, List.append_assoc, List.append_assoc]⟩
    split at h
    · obtain ⟨e, l, _⟩ := ad_ok h
      exact ⟨l, _, e⟩
    split at h
    · obtain ⟨e, l, _⟩ := ad_ok h
      exact ⟨l, _, e⟩
    split at h
    · cases h
    · rename_i T2 h2
      split at h
      · cases h
      · rename_i T3 h3
        obtain ⟨e2, _, _⟩ := ad_ok h2
        obtain ⟨e3, _, _⟩ := ad_ok h3
        obtain ⟨e4, l4, _⟩ := ad_ok h
        exact ⟨l4, _, by rw [e4, e3, e2, List.append_assoc, List.append_assoc]⟩
theorem wr_len {tS : Int → ByteArray} {tB : Int → Bool} {ts : List AP.Th} {f : Nat} {m : Bool} {T : List UInt8} {x : Int} {T1 : List UInt8} (h : wrt tS tB ts f m T x = .ok T1) : T1.length ≤ 120 ∧ T.length ≤ T1.length := by
  obtain ⟨h1, U, e⟩ := wr_ok _ _ _ _ _ h
  exact ⟨h1, by rw [e, List.length_append]; omega⟩
end SX
namespace SW
open LX SX
section
variable {w0 : World} {q : Nat} {nv : Value} {tS : Int → ByteArray} {tB : Int → Bool} {p g h n : Nat} {ts : List AP.Th}
def WordH (w0 : World) (q p : Nat) (nv : Value) (tS : Int → ByteArray) (tB : Int → Bool) (ts : List AP.Th) (f : Nat) : Prop :=
  ∀ (w : World) (T : List UInt8) (x : Int), Wp w0 w q (AW.ptr p) nv T → T.length ≤ 120 → 122 ≤ f + T.length → WP.U x →
    Calls Tryz.prog 43 #[.pointer (some ⟨q, 0, none⟩), .int .u64 x] w (WrP w0 q (AW.ptr p) nv (wrt tS tB ts f false T x))
theorem sg_len {n : Nat} {ts : List AP.Th} (hS : ∀ i, (tS i).size ≤ 1000000) (hO : AW.Ok n ts) (x : Int) (hx : WP.U x) : (sg tS tB ts x).length ≤ 1000100 := by
  have hb (v : Int) (h0 : -9223372036854775808 ≤ v) (h1 : v ≤ 9223372036854775807) : (Lib.itoa v).length ≤ 21 := Lib.itoa_length_le v h0 h1
  have hxu := hx
  unfold WP.U at hxu
  have hk := kindN_le hO x
  have hn (k : Int) : 0 ≤ WP.toN k x ∧ WP.toN k x ≤ 9223372036854775807 := by
    unfold WP.toN
    split
    · rename_i h
      have := (WP.toB_iff k x).1 h
      omega
    · omega
  unfold sg
  repeat' split
  all_goals try (simp only [List.length_cons, List.length_nil]; omega)
  · rename_i h
    have h0 := (WP.toIntB_iff x).1 h
    have := hb (WP.toIntN x) (by unfold WP.toIntN; rw [if_pos h]; omega) (by unfold WP.toIntN; rw [if_pos h]; omega)
    omega
  · unfold nmT
    split
    · have := hS (WP.toN 3 x)
      have e : (bts (tS (WP.toN 3 x))).length = (tS (WP.toN 3 x)).size := by unfold bts; rw [Array.length_toList]; rfl
      omega
    · have h1 := hn 3
      have := hb (WP.toN 3 x) (by omega) (by omega)
      simp only [List.length_cons]; omega
  · have h1 := hn 4
    have := hb (WP.toN 4 x) (by omega) (by omega)
    simp only [List.length_cons]; omega
  · have := hb (AW.kindN ts x) (by omega) (by omega)
    simp only [List.length_cons]; omega
/-- At the head of pair's loop. -/
def PairI (w0 : World) (q p : Nat) (nv : Value) (tS : Int → ByteArray) (tB : Int → Bool) (ts : List AP.Th) (f : Nat) (X : Except (List UInt8) (List UInt8)) (k : Nat) (r : Int) (wr_ : World) : Prop :=
  ∃ T, Wp w0 wr_ q (AW.ptr p) nv T ∧ T.length ≤ 120 ∧ 122 ≤ k + T.length ∧ k ≤ f ∧ wrt tS tB ts k true T r = X
set_option maxHeartbeats 1000000 in
set_option maxRecDepth 20000 in
theorem pair_any (hA : AW.Ar w0 p g h n ts) (f : Nat) (H : ∀ k, k ≤ f → WordH w0 q p nv tS tB ts k) (w : World) (T : List UInt8) (x : Int) (hW : Wp w0 w q (AW.ptr p) nv T) (hT : T.length ≤ 120) (hf : 122 ≤ f + 1 + T.length) (hx : WP.U x) (hp : prB ts x = true) :
    Calls Tryz.prog 60 #[.pointer (some ⟨q, 0, none⟩), .int .u64 x] w (WrP w0 q (AW.ptr p) nv (wrt tS tB ts (f + 1) false T x)) := by
  obtain ⟨X, hX⟩ : ∃ X, wrt tS tB ts (f + 1) false T x = X := ⟨_, rfl⟩
  rw [hX]
  unfold wrt at hX
  rw [if_pos hp, if_neg (by decide)] at hX
  have HA := Lib.hid hA
  have HH := Lib.hid H
  have HW := Lib.hid hW
  have HX := Lib.hid hx
  have HF := Lib.hid (fun (wx : World) (T1 : List UInt8) (hW : Wp w0 wx q (AW.ptr p) nv T1) (y : Int) (hy : WP.U y) (j : Int) => field_any (hA.far hW.far (by simp) (by simp) (by simp)) hW.arena y hy j)
  have HP := Lib.hid (fun (wx : World) (T1 : List UInt8) (hW : Wp w0 wx q (AW.ptr p) nv T1) (y : Int) (hy : WP.U y) => ispair_any (hA.far hW.far (by simp) (by simp) (by simp)) hW.arena y hy)
  have HU := Lib.hid (fun (y j : Int) => getW_u hA.ok y j)
  have HAD := Lib.hid (add_any hW ⟨#[40]⟩ hT (by decide))
  rw [show bts (⟨#[40]⟩ : ByteArray) = [40] from rfl] at HAD
  clear hA H hW hx
  cases h1 : ad T [40] with
  | error E =>
    rw [h1] at hX HAD
    subst hX
    clear h1
    go_enter Tryz.func60, Tryz.ntmps60
    go_wp2_with (first
      | (go_at_call 61; (with_reducible refine HAD.out.mono ?_); rintro e w2 ⟨rfl, hW2⟩))
    exact ⟨rfl, rfl, hW2⟩
  | ok T1 =>
    rw [h1] at hX HAD
    simp only at hX
    obtain ⟨-, hl1, hl2⟩ := ad_ok h1
    simp only [List.length_cons, List.length_nil] at hl2
    clear h1
    cases h2 : wrt tS tB ts f false T1 (AW.getW ts x 0) with
    | error E =>
      rw [h2] at hX
      subst hX
      have HWD := Lib.hid (fun (wx : World) (hW : Wp w0 wx q (AW.ptr p) nv T1) => HH.out f (Nat.le_refl _) wx T1 (AW.getW ts x 0) hW hl1 (by omega) (HU.out _ _))
      rw [h2] at HWD
      clear h2
      go_enter Tryz.func60, Tryz.ntmps60
      go_wp2_with (first
        | (go_at_call 61; (with_reducible refine HAD.out.mono ?_); rintro e w2 ⟨rfl, hW2⟩; have HW2 := Lib.hid hW2; clear hW2)
        | (go_at_call 77; (with_reducible refine (HF.out _ _ HW2.out x HX.out 0).mono ?_); rintro e w' ⟨rfl, rfl⟩)
        | (go_at_call 43; (with_reducible refine (HWD.out _ HW2.out).mono ?_); rintro e w3 ⟨rfl, hW3⟩))
      exact ⟨rfl, rfl, hW3⟩
    | ok T2 =>
      rw [h2] at hX
      simp only at hX
      have HWD := Lib.hid (fun (wx : World) (hW : Wp w0 wx q (AW.ptr p) nv T1) => HH.out f (Nat.le_refl _) wx T1 (AW.getW ts x 0) hW hl1 (by omega) (HU.out _ _))
      rw [h2] at HWD
      obtain ⟨g1, g2⟩ := wr_len h2
      have HX2 := Lib.hid hX
      clear h2 hX
      go_enter Tryz.func60, Tryz.ntmps60
      go_wp2_with (first
        | (go_at_call 61; (with_reducible refine HAD.out.mono ?_); rintro e w2 ⟨rfl, hW2⟩; have HW2 := Lib.hid hW2; clear hW2)
        | (go_at_call 77; (with_reducible refine (HF.out _ _ HW2.out x HX.out 0).mono ?_); rintro e w' ⟨rfl, rfl⟩)
        | (go_at_call 43; (with_reducible refine (HWD.out _ HW2.out).mono ?_); rintro e w3 ⟨rfl, hW3⟩; have HW3 := Lib.hid hW3; clear hW3)
        | (go_at_call 77; (with_reducible refine (HF.out _ _ HW3.out x HX.out 1).mono ?_); rintro e w' ⟨rfl, rfl⟩))
      have HI2 : Hid (PairI w0 q p nv tS tB ts f X f (AW.getW ts x 1) w3) := Lib.hid ⟨T2, HW3.out, g1, by omega, Nat.le_refl _, HX2.out⟩
      go_loopg [4] f (fun k s4 wz => ∃ r : Int, s4 = .int .u64 r ∧ WP.U r ∧ PairI w0 q p nv tS tB ts f X k r wz)
      case atStart => exact ⟨AW.getW ts x 1, rfl, HU.out _ _, HI2.out⟩
      case round =>
        obtain ⟨r, rfl, hr, T3, hW4, hl4, hk4, hkf, hX4⟩ := hrel
        obtain ⟨k1, rfl⟩ : ∃ k1, gk = k1 + 1 := ⟨gk - 1, by omega⟩
        unfold wrt at hX4
        have HW4 := Lib.hid hW4
        have HR := Lib.hid hr
        have HPR := Lib.hid (HP.out wr T3 hW4 r hr)
        clear hW4 hr HI2
        by_cases hpr : prB ts r = true
        · rw [hpr] at HPR
          rw [if_pos hpr, if_pos rfl] at hX4
          have HAD4 := Lib.hid (add_any HW4.out ⟨#[32]⟩ hl4 (by decide))
          rw [show bts (⟨#[32]⟩ : ByteArray) = [32] from rfl] at HAD4
          clear hpr
          cases h5 : ad T3 [32] with
          | error E =>
            rw [h5] at hX4 HAD4
            have HX4 : Hid (X = .error E) := Lib.hid hX4.symm
            clear h5 hX4
            go_wp2_with (first
              | (go_at_call 59; (with_reducible refine HPR.out.mono ?_); rintro e w' ⟨rfl, rfl⟩)
              | (go_at_call 61; (with_reducible refine HAD4.out.mono ?_); rintro e w5 ⟨rfl, hW5⟩; have HW5 := Lib.hid hW5; clear hW5))
            rw [HX4.out]
            exact ⟨rfl, rfl, HW5.out⟩
          | ok T5 =>
            rw [h5] at hX4 HAD4
            simp only at hX4
            obtain ⟨-, hl5, hl6⟩ := ad_ok h5
            simp only [List.length_cons, List.length_nil] at hl6
            have HWD4 := Lib.hid (fun (wx : World) (hW : Wp w0 wx q (AW.ptr p) nv T5) => HH.out k1 (by omega) wx T5 (AW.getW ts r 0) hW hl5 (by omega) (HU.out _ _))
            clear h5
            cases h6 : wrt tS tB ts k1 false T5 (AW.getW ts r 0) with
            | error E =>
              rw [h6] at hX4 HWD4
              have HX4 : Hid (X = .error E) := Lib.hid hX4.symm
              clear h6 hX4
              go_wp2_with (first
                | (go_at_call 59; (with_reducible refine HPR.out.mono ?_); rintro e w' ⟨rfl, rfl⟩)
                | (go_at_call 61; (with_reducible refine HAD4.out.mono ?_); rintro e w5 ⟨rfl, hW5⟩; have HW5 := Lib.hid hW5; clear hW5)
                | (go_at_call 77; (with_reducible refine (HF.out _ _ HW5.out r HR.out 0).mono ?_); rintro e w' ⟨rfl, rfl⟩)
                | (go_at_call 43; (with_reducible refine (HWD4.out _ HW5.out).mono ?_); rintro e w6 ⟨rfl, hW6⟩; have HW6 := Lib.hid hW6; clear hW6))
              rw [HX4.out]
              exact ⟨rfl, rfl, HW6.out⟩
            | ok T6 =>
              rw [h6] at hX4 HWD4
              simp only at hX4
              have HX4 := Lib.hid hX4
              obtain ⟨i1, i2⟩ := wr_len h6
              clear h6 hX4
              go_wp2_with (first
                | (go_at_call 59; (with_reducible refine HPR.out.mono ?_); rintro e w' ⟨rfl, rfl⟩)
                | (go_at_call 61; (with_reducible refine HAD4.out.mono ?_); rintro e w5 ⟨rfl, hW5⟩; have HW5 := Lib.hid hW5; clear hW5)
                | (go_at_call 77; (with_reducible refine (HF.out _ _ HW5.out r HR.out 0).mono ?_); rintro e w' ⟨rfl, rfl⟩)
                | (go_at_call 43; (with_reducible refine (HWD4.out _ HW5.out).mono ?_); rintro e w6 ⟨rfl, hW6⟩; have HW6 := Lib.hid hW6; clear hW6)
                | (go_at_call 77; (with_reducible refine (HF.out _ _ HW6.out r HR.out 1).mono ?_); rintro e w' ⟨rfl, rfl⟩))
              go_roundg k1
              case measure => omega
              case rel => exact ⟨AW.getW ts r 1, rfl, HU.out _ _, T6, HW6.out, i1, by omega, by omega, HX4.out⟩
        · have hpr2 : prB ts r = false := by simpa using hpr
          rw [hpr2] at HPR
          rw [if_neg hpr, if_neg (by decide)] at hX4
          by_cases r2 : r = 2
          · subst r2
            rw [if_pos rfl] at hX4
            have HAD4 := Lib.hid (add_any HW4.out ⟨#[41]⟩ hl4 (by decide))
            rw [show bts (⟨#[41]⟩ : ByteArray) = [41] from rfl, hX4] at HAD4
            clear hpr hpr2 hX4
            cases X with
            | error E =>
              go_wp2_with (first
                | (go_at_call 59; (with_reducible refine HPR.out.mono ?_); rintro e w' ⟨rfl, rfl⟩)
                | (go_at_call 61; (with_reducible refine HAD4.out.mono ?_); rintro e w5 ⟨rfl, hW5⟩; have HW5 := Lib.hid hW5; clear hW5))
              exact ⟨rfl, rfl, HW5.out⟩
            | ok T5 =>
              go_wp2_with (first
                | (go_at_call 59; (with_reducible refine HPR.out.mono ?_); rintro e w' ⟨rfl, rfl⟩)
                | (go_at_call 61; (with_reducible refine HAD4.out.mono ?_); rintro e w5 ⟨rfl, hW5⟩; have HW5 := Lib.hid hW5; clear hW5))
              go_end0
              exact ⟨rfl, HW5.out⟩
          · rw [if_neg r2] at hX4
            have b2 : (r == 2) = false := by rw [beq_eq_false_iff_ne]; exact r2
            have b3 : (r != 2) = true := by simp [bne, b2]
            have HAD4 := Lib.hid (add_any HW4.out ⟨#[32, 46, 32]⟩ hl4 (by decide))
            rw [show bts (⟨#[32, 46, 32]⟩ : ByteArray) = [32, 46, 32] from rfl] at HAD4
            cases h5 : ad T3 [32, 46, 32] with
            | error E =>
              rw [h5] at hX4 HAD4
              have HX4 : Hid (X = .error E) := Lib.hid hX4.symm
              clear h5 hX4 hpr hpr2
              go_wp2_with (first
                | (go_at_call 59; (with_reducible refine HPR.out.mono ?_); rintro e w' ⟨rfl, rfl⟩)
                | (go_at_call 61; (with_reducible refine HAD4.out.mono ?_); rintro e w5 ⟨rfl, hW5⟩; have HW5 := Lib.hid hW5; clear hW5))
              rw [HX4.out]
              exact ⟨rfl, rfl, HW5.out⟩
            | ok T5 =>
              rw [h5] at hX4 HAD4
              simp only at hX4
              obtain ⟨-, hl5, hl6⟩ := ad_ok h5
              simp only [List.length_cons, List.length_nil] at hl6
              have hw : wrt tS tB ts k1 false T5 r = ad T5 (sg tS tB ts r) := by
                obtain ⟨k2, rfl⟩ : ∃ k2, k1 = k2 + 1 := ⟨k1 - 1, by omega⟩
                unfold wrt
                rw [if_neg hpr, if_pos rfl]
              have HWD4 := Lib.hid (fun (wx : World) (hW : Wp w0 wx q (AW.ptr p) nv T5) => HH.out k1 (by omega) wx T5 r hW hl5 (by omega) HR.out)
              rw [hw] at HWD4
              clear h5 hpr hpr2 hw
              cases h6 : ad T5 (sg tS tB ts r) with
              | error E =>
                rw [h6] at hX4 HWD4
                have HX4 : Hid (X = .error E) := Lib.hid hX4.symm
                clear h6 hX4
                go_wp2_with (first
                  | (go_at_call 59; (with_reducible refine HPR.out.mono ?_); rintro e w' ⟨rfl, rfl⟩)
                  | (go_at_call 61; (with_reducible refine HAD4.out.mono ?_); rintro e w5 ⟨rfl, hW5⟩; have HW5 := Lib.hid hW5; clear hW5)
                  | (go_at_call 43; (with_reducible refine (HWD4.out _ HW5.out).mono ?_); rintro e w6 ⟨rfl, hW6⟩; have HW6 := Lib.hid hW6; clear hW6))
                rw [HX4.out]
                exact ⟨rfl, rfl, HW6.out⟩
              | ok T6 =>
                rw [h6] at hX4 HWD4
                simp only at hX4
                obtain ⟨-, hl7, -⟩ := ad_ok h6
                have HAD7 := Lib.hid (fun (wx : World) (hW : Wp w0 wx q (AW.ptr p) nv T6) => add_any hW ⟨#[41]⟩ hl7 (by decide))
                rw [show bts (⟨#[41]⟩ : ByteArray) = [41] from rfl, hX4] at HAD7
                clear h6 hX4
                cases X with
                | error E =>
                  go_wp2_with (first
                    | (go_at_call 59; (with_reducible refine HPR.out.mono ?_); rintro e w' ⟨rfl, rfl⟩)
                    | (go_at_call 61; (with_reducible refine HAD4.out.mono ?_); rintro e w5 ⟨rfl, hW5⟩; have HW5 := Lib.hid hW5; clear hW5)
                    | (go_at_call 43; (with_reducible refine (HWD4.out _ HW5.out).mono ?_); rintro e w6 ⟨rfl, hW6⟩; have HW6 := Lib.hid hW6; clear hW6)
                    | (go_at_call 61; (with_reducible refine (HAD7.out _ HW6.out).mono ?_); rintro e w7 ⟨rfl, hW7⟩; have HW7 := Lib.hid hW7; clear hW7))
                  exact ⟨rfl, rfl, HW7.out⟩
                | ok T7 =>
                  go_wp2_with (first
                    | (go_at_call 59; (with_reducible refine HPR.out.mono ?_); rintro e w' ⟨rfl, rfl⟩)
                    | (go_at_call 61; (with_reducible refine HAD4.out.mono ?_); rintro e w5 ⟨rfl, hW5⟩; have HW5 := Lib.hid hW5; clear hW5)
                    | (go_at_call 43; (with_reducible refine (HWD4.out _ HW5.out).mono ?_); rintro e w6 ⟨rfl, hW6⟩; have HW6 := Lib.hid hW6; clear hW6)
                    | (go_at_call 61; (with_reducible refine (HAD7.out _ HW6.out).mono ?_); rintro e w7 ⟨rfl, hW7⟩; have HW7 := Lib.hid hW7; clear hW7))
                  go_end0
                  exact ⟨rfl, HW7.out⟩
set_option maxHeartbeats 1000000 in
set_option maxRecDepth 20000 in
theorem word_step (hA : AW.Ar w0 p g h n ts) (hN : Nms w0 nv tS tB) (hT0 : Tab w0) (f : Nat) (H : ∀ k, k ≤ f → WordH w0 q p nv tS tB ts k) : WordH w0 q p nv tS tB ts (f + 1) := by
  intro w T x hW hT hf hx
  obtain ⟨X, hX⟩ : ∃ X, wrt tS tB ts (f + 1) false T x = X := ⟨_, rfl⟩
  have HPR := Lib.hid (ispair_any (hA.far hW.far (by simp) (by simp) (by simp)) hW.arena x hx)
  have HW := Lib.hid hW
  by_cases hp : prB ts x = true
  · have HPA := Lib.hid (pair_any hA f H w T x hW hT hf hx hp)
    rw [hX] at HPA ⊢
    rw [hp] at HPR
    clear hp hX hA hN hT0 H hW
    cases X with
    | error E =>
      go_enter Tryz.func43, Tryz.ntmps43
      go_wp2_with (first
        | (go_at_call 59; (with_reducible refine HPR.out.mono ?_); rintro e w' ⟨rfl, rfl⟩)
        | (go_at_call 60; (with_reducible refine HPA.out.mono ?_); rintro e w5 ⟨rfl, hW5⟩; have HW5 := Lib.hid hW5; clear hW5))
      exact ⟨rfl, rfl, HW5.out⟩
    | ok T5 =>
      go_enter Tryz.func43, Tryz.ntmps43
      go_wp2_with (first
        | (go_at_call 59; (with_reducible refine HPR.out.mono ?_); rintro e w' ⟨rfl, rfl⟩)
        | (go_at_call 60; (with_reducible refine HPA.out.mono ?_); rintro e w5 ⟨rfl, hW5⟩; have HW5 := Lib.hid hW5; clear hW5))
      go_end0
      exact ⟨rfl, HW5.out⟩
  · have hp2 : prB ts x = false := by simpa using hp
    have HS := Lib.hid (single_any hA hN hT0 hW.far hW.arena hW.names x hx)
    have hsz : (sg tS tB ts x).length ≤ 1000100 := sg_len hN.1 hA.ok x hx
    have HAD := Lib.hid (fun (wx : World) (F : MM.Far [] w wx) => add_any (hW.to F) (str (sg tS tB ts x)) hT (by show (sg tS tB ts x).length ≤ _; omega))
    rw [show bts (str (sg tS tB ts x)) = sg tS tB ts x from rfl] at HAD
    rw [hX]
    unfold wrt at hX
    rw [if_neg hp, if_pos rfl] at hX
    rw [hX] at HAD
    rw [hp2] at HPR
    clear hp hp2 hX hA hN hT0 H hW
    cases X with
    | error E =>
      go_enter Tryz.func43, Tryz.ntmps43
      go_wp2_with (first
        | (go_at_call 59; (with_reducible refine HPR.out.mono ?_); rintro e w' ⟨rfl, rfl⟩)
        | (go_at_call 62; (with_reducible refine HS.out.mono ?_); rintro e w4 ⟨rfl, hF4⟩; have HF4 := Lib.hid hF4; clear hF4)
        | (go_at_call 61; (with_reducible refine (HAD.out _ HF4.out).mono ?_); rintro e w5 ⟨rfl, hW5⟩; have HW5 := Lib.hid hW5; clear hW5))
      exact ⟨rfl, rfl, HW5.out⟩
    | ok T5 =>
      go_enter Tryz.func43, Tryz.ntmps43
      go_wp2_with (first
        | (go_at_call 59; (with_reducible refine HPR.out.mono ?_); rintro e w' ⟨rfl, rfl⟩)
        | (go_at_call 62; (with_reducible refine HS.out.mono ?_); rintro e w4 ⟨rfl, hF4⟩; have HF4 := Lib.hid hF4; clear hF4)
        | (go_at_call 61; (with_reducible refine (HAD.out _ HF4.out).mono ?_); rintro e w5 ⟨rfl, hW5⟩; have HW5 := Lib.hid hW5; clear hW5))
      go_end0
      exact ⟨rfl, HW5.out⟩
theorem word_any (hA : AW.Ar w0 p g h n ts) (hN : Nms w0 nv tS tB) (hT0 : Tab w0) (f : Nat) : WordH w0 q p nv tS tB ts f := by
  have : ∀ f k, k ≤ f → WordH w0 (q := q) p nv tS tB ts k := by
    intro f
    induction f with
    | zero =>
      intro k hk w T x _ h1 h2
      omega
    | succ f ih =>
      intro k hk
      rcases Nat.lt_or_ge f k with h1 | h1
      · obtain rfl : k = f + 1 := by omega
        exact word_step hA hN hT0 f ih
      · exact ih k h1
  exact this f f (Nat.le_refl _)
end
end SW
end Go.Proofs.YtbglcdjimipeeaaGreatDoor
