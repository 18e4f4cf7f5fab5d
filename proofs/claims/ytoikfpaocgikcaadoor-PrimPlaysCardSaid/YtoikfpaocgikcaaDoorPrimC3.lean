/-
  Contract of layer 10's code: Do, whatever it is handed. Conditions: the arena's rows are as the list of things says, words lie in 64 bits, the tables are as laid.
-/
import Derived.Test.YtoikfpaocgikcaaDoorPrimC2
import Derived.Test.YtoikfpaocgikcaaDoorArenaKeep
import Derived.Deep.QuietTactic
namespace Go.Proofs.YtoikfpaocgikcaaDoor
open Go.RowKit
set_option linter.unusedVariables false
namespace PW
open AW AL
/-- The words that are handed over: where the first lies, and the second. -/
def A1 (w : World) (b o : Nat) (x : Int) : Prop := w.cell? ⟨b, o, none⟩ = some (.int .u64 x) ∧ WP.U x
def A2 (w : World) (b o : Nat) (x y : Int) : Prop := w.cell? ⟨b, o, none⟩ = some (.int .u64 x) ∧ w.cell? ⟨b, o + 1, none⟩ = some (.int .u64 y) ∧ WP.U x ∧ WP.U y
section
variable {w : World} {p g h n : Nat} {ts : List AP.Th}
theorem do_lo (pv : Value) (op : Int) (A : Option Addr) (m c : Nat) (hm : m ≤ 9223372036854775807) (ho : op < 1) : Calls Tryd.prog 14 #[pv, .int .i64 op, .slice A m c] w fun e w' => e = .returned (.tuple #[.int .u64 0, .int .i64 1]) ∧ w = w' := by
  go_enter Tryd.func14, Tryd.ntmps14
  go_wp2
  go_ret2
  exact ⟨rfl, rfl⟩
theorem do_hi (pv : Value) (op : Int) (A : Option Addr) (m c : Nat) (hm : m ≤ 9223372036854775807) (ho : 17 < op) : Calls Tryd.prog 14 #[pv, .int .i64 op, .slice A m c] w fun e w' => e = .returned (.tuple #[.int .u64 0, .int .i64 1]) ∧ w = w' := by
  go_enter Tryd.func14, Tryd.ntmps14
  go_wp2
  go_ret2
  exact ⟨rfl, rfl⟩
theorem do_many (hT : CT w) (pv : Value) (op : Int) (A : Option Addr) (m c : Nat) (hm : m ≤ 9223372036854775807) (h1 : 1 ≤ op) (h2 : op ≤ 17) (hn : (m : Int) ≠ PP.cnt op) : Calls Tryd.prog 14 #[pv, .int .i64 op, .slice A m c] w fun e w' => e = .returned (.tuple #[.int .u64 0, .int .i64 1]) ∧ w = w' := by
  obtain ⟨k, rfl⟩ : ∃ k : Nat, op = k := ⟨op.toNat, by omega⟩
  have hk : k < 18 := by omega
  have hc := hT.cntAt k hk
  generalize PP.cnt (k : Int) = z at *
  have hz : ((m : Int) != z) = true := by simpa using hn
  clear hT
  go_enter Tryd.func14, Tryd.ntmps14
  go_wp2
  go_ret2
  exact ⟨rfl, rfl⟩
/-- Numbers. -/
theorem do_num (hT : CT w) (pv : Value) (k : Nat) (b o c : Nat) (x y : Int) (hx : A2 w b o x y) (h1 : 1 ≤ k) (h2 : k ≤ 7) : Calls Tryd.prog 14 #[pv, .int .i64 k, .slice (some ⟨b, o, none⟩) 2 c] w fun e w' =>
    e = .returned (.tuple #[.int .u64 (WP.doW (PP.sgn k) x y), .int .i64 (WP.doE (PP.sgn k) x y)]) ∧ MM.Far [] w w' := by
  obtain ⟨hx0, hx1, ux, uy⟩ := hx
  have hc := hT.cntAt k (by omega)
  have hs := hT.sgnAt k (by omega)
  have h2c : PP.cnt (k : Int) = 2 := by have := PP.cnt_cases k (by omega) (by omega); omega
  rw [h2c] at hc
  have HD := Lib.hid (fun W => WW.do_any (PP.sgn (k : Int)) x y ux uy W)
  generalize WP.doW (PP.sgn (k : Int)) x y = rw_ at *
  generalize WP.doE (PP.sgn (k : Int)) x y = re at *
  generalize PP.sgn (k : Int) = s at *
  clear hT ux uy h2c
  go_enter Tryd.func14, Tryd.ntmps14
  go_wp2
  go_quiet ((go_at_call 17; exact quiet_d (HD.out _)))
  go_wp2
  go_ret2
  exact ⟨rfl, (MM.Far.refl _ _).drewN _⟩
end
end PW
end Go.Proofs.YtoikfpaocgikcaaDoor
