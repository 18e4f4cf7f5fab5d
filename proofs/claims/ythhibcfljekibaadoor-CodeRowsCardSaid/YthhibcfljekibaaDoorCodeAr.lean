/-
  Contract of layer 11's code: arities, the map of how many arguments each primitive has. Conditions: the library's table of blanks, the program's table of primitives.
-/
import Derived.Test.YthhibcfljekibaaDoorCodeMap
namespace Go.Proofs.YthhibcfljekibaaDoor
open Go.RowKit
set_option linter.unusedVariables false
namespace KP
def opN (k : Nat) : Int := if k < 17 then (k : Int) + 1 else (k : Int) + 2
/-- The numbers of the first k names. -/
def arK (k : Nat) (x : Int) : Option Int := if 1 ≤ x ∧ x ≠ 18 ∧ x < opN k then some (manyL.getD x.toNat 0) else none
theorem arK_zero (x : Int) : arK 0 x = none := by unfold arK opN; rw [if_neg (by simp; omega)]
theorem arK_all (x : Int) : arK 29 x = arity x := by
  unfold arK arity opN
  by_cases h : 1 ≤ x ∧ x ≤ 30 ∧ x ≠ 18
  · rw [if_pos h, if_pos (by simp; omega)]
  · rw [if_neg h, if_neg (by simp; omega)]
theorem arK_step (k : Nat) (hk : k < 29) (x : Int) : (if x = opN k then some (manyL.getD (opN k).toNat 0) else arK k x) = arK (k + 1) x := by
  unfold arK
  by_cases h : x = opN k
  · subst h
    rw [if_pos rfl, if_pos]
    unfold opN
    split <;> split <;> omega
  · rw [if_neg h]
    by_cases h2 : 1 ≤ x ∧ x ≠ 18 ∧ x < opN k
    · rw [if_pos h2, if_pos]
      refine ⟨h2.1, h2.2.1, ?_⟩
      have := h2.2.2
      unfold opN at *
      split at this <;> split <;> omega
    · rw [if_neg h2, if_neg]
      rintro ⟨a, b, c⟩
      apply h2
      refine ⟨a, b, ?_⟩
      unfold opN at *
      split at h <;> split at c <;> simp_all <;> omega
theorem wor_prim : ∀ k, k < 29 → isPrim (wor k) = true ∧ ((primO (wor k) : Nat) : Int) = opN k ∧ ((primK (wor k) : Nat) : Int) = manyL.getD (opN k).toNat 0 := by decide +kernel
end KP
namespace KW
open KP
theorem tex_const : (⟨(([43, 32, 45, 32, 42, 32, 113, 117, 111, 116, 105, 101, 110, 116, 32, 114, 101, 109, 97, 105, 110, 100, 101, 114, 32, 60, 32, 61, 32, 101, 113, 63, 32, 110, 111, 116, 32, 110, 117, 108].append [108, 63, 32, 112, 97, 105, 114, 63, 32, 99, 111, 110, 115, 32, 99, 97, 114, 32, 99, 100, 114, 32, 110, 117, 109, 98, 101, 114, 63, 32, 115, 121, 109, 98, 111, 108, 63, 32, 112, 114]).append ([111, 99, 101, 100, 117, 114, 101, 63, 32, 111, 117, 116, 32, 115, 112, 97, 119, 110, 32, 109, 105, 99, 114, 111, 32, 97, 102, 116, 101, 114, 32, 99, 97, 110, 99, 101, 108, 32, 112, 114].append [111, 109, 105, 115, 101, 32, 115, 101, 116, 116, 108, 101, 32, 116, 104, 101, 110, 32, 115, 116, 114, 101, 97, 109, 32, 119, 114, 105, 116, 101, 32, 114, 101, 97, 100, 32, 116, 105, 109, 101])).toArray⟩ : ByteArray) = tex := by kernel_rfl
set_option maxHeartbeats 4000000 in
set_option maxRecDepth 20000 in
theorem arities_any (w : World) (hA : AT w) (hP : PT w) : Calls Tryd.prog 14 #[] w fun e w' => ∃ mb, e = .returned (.map (some mb)) ∧ MapI w' mb arity ∧ w.heap.size ≤ mb ∧ MM.Far [] w w' := by
  have HA := Lib.hid hA
  have HP := Lib.hid hP
  clear hA hP
  have F1 := Lib.hid ((MM.Far.refl [] w).alloc (.map #[] 0))
  have HM0 := Lib.hid (MapI.new w)
  have HC := Lib.hid tex_const
  have HFL := Lib.hid (fun W (h : AT W) => fields_any W h)
  go_enter Tryd.func14, Tryd.ntmps14
  have hmm := @run_makeMap Tryd.prog
  go_wp2_with (first
    | (go_at_call 18
       (try rw [HC.out])
       refine (HFL.out _ (HA.out.far F1.out)).mono ?_
       rintro e w2 ⟨g, rfl, hr, hg, hF⟩
       have HR := Lib.hid hr
       have HF2 := Lib.hid (F1.out.trans hF (by simp))
       have HM2 := Lib.hid (HM0.out.far hF (by simp))
       have hg2 : w.heap.size + 1 ≤ g := by simpa using hg
       clear hr hF hg))
  have HM3 : Hid (MapI w2 w.heap.size (arK 0)) := Lib.hid (by
    have e : (fun _ : Int => (none : Option Int)) = arK 0 := funext fun x => (arK_zero x).symm
    rw [← e]; exact HM2.out)
  have F0 : Hid (MM.Far [] w w2) := HF2
  clear hmm HM2 HF2 HM0
  obtain ⟨mb, hmb⟩ : ∃ mb, w.heap.size = mb := ⟨_, rfl⟩
  rw [hmb] at HM3 hg2
  rw [hmb]
  have HMB := Lib.hid hmb
  clear hmb
  have HW := Lib.hid (fun k hk => wor_prim k hk)
  go_loopw [10] (fun s10 wr => ∃ k : Nat, k ≤ 29 ∧ s10 = num k ∧ Hid (MapI wr mb (arK k)) ∧ Hid (MM.Row wr g 9 (rowL 29)) ∧ Hid (MM.Far [] w wr)) (fun s10 _ => 29 - (intOf s10).toNat)
  case atStart => exact ⟨0, by omega, rfl, HM3, HR, F0⟩
  case round =>
    obtain ⟨k, hk, rfl, HMk, HRk, HFk⟩ := hrel
    by_cases hlt : k < 29
    · have hck : wr.cell? ⟨g, k, none⟩ = some (.string (wor k)) := HRk.out.at (row_str 29 k hlt hlt)
      obtain ⟨p1, p2, p3⟩ := HW.out k hlt
      have HPc := Lib.hid (fun W (h : PT W) => prim_any h (wor k))
      rw [p1] at HPc
      rw [p2, p3] at HPc
      have HST := Lib.hid (fun x => arK_step k hlt x)
      generalize wor k = wd at *
      generalize opN k = op at *
      generalize manyL.getD op.toNat 0 = mn at *
      clear p1 p2 p3
      have hgr := HRk.out.lt
      go_wp2_with (first
        | (go_at_call 19
           refine (HPc.out _ (HP.out.far HFk.out)).mono ?_
           rintro e w4 ⟨rfl, hF4⟩
           obtain ⟨w5, hup, hM5, hF5⟩ := (HMk.out.far hF4 (by simp)).up op mn
           have HM5 : Hid (MapI w5 mb (arK (k + 1))) := Lib.hid (by
             have e : (fun x => if x = op then some mn else arK k x) = arK (k + 1) := funext HST.out
             rw [← e]; exact hM5)
           have HR5 := Lib.hid ((HRk.out.far hF4 (by simp)).far hF5 (by simp; omega))
           have HF5 := Lib.hid ((HFk.out.trans hF4 (by simp)).trans hF5 (fun b h1 h2 => by have := HMB.out; simp at h1; omega))
           clear hM5 hF4 hF5))
      go_roundw
      case rel => exact ⟨k + 1, by omega, by go_num, HM5, HR5, HF5⟩
      case measure => simp [intOf]; omega
    · obtain rfl : k = 29 := by omega
      go_wp2_with (fail)
      go_ret
      refine ⟨mb, rfl, ?_, by rw [HMB.out]; exact Nat.le_refl _, HFk.out⟩
      have e : arK 29 = arity := funext arK_all
      rw [← e]; exact HMk.out
end KW
end Go.Proofs.YthhibcfljekibaaDoor
