/-
  The walk of PrimSums: what is done to numbers is done as words say. Condition: the arguments' readings, the tables.
-/
import Derived.Test.YtoikfpaocgikcaaDoorPrimShown
namespace Go.Proofs.YtoikfpaocgikcaaDoor
open Go.RowKit
set_option linter.unusedVariables false
namespace PW
open AW AL
def sgnS : ByteArray := ⟨#[43, 45, 42, 47, 37, 60, 61]⟩
theorem sign_ix (k : Nat) (h : k < 7) (W : World) : (Instr.index 9 (.string sgnS) (.int .i64 (k : Nat))).run Tryd.prog W = .ok (.int .u8 (PP.sgn ((k : Int) + 1))) W :=
  match k, h with
  | 0, _ => by kernel_rfl
  | 1, _ => by kernel_rfl
  | 2, _ => by kernel_rfl
  | 3, _ => by kernel_rfl
  | 4, _ => by kernel_rfl
  | 5, _ => by kernel_rfl
  | 6, _ => by kernel_rfl
  | n + 7, h => absurd h (by omega)
theorem doW_num (n : Nat) (ts : List AP.Th) (k : Nat) (x y : Int) (h1 : 1 ≤ k) (h7 : k ≤ 7) : PP.doW n ts k [x, y] = WP.doW (PP.sgn k) x y ∧ PP.doE n ts k [x, y] = WP.doE (PP.sgn k) x y ∧ PP.doT n ts k [x, y] = ts := by
  have hc := PP.cnt_cases k (by omega) (by omega)
  have hok : PP.okB (k : Int) ([x, y] : List Int).length = true := (PP.okB_iff _ _).2 ⟨by omega, by omega, by simp; omega⟩
  refine ⟨?_, ?_, ?_⟩
  · unfold PP.doW PP.valW; rw [if_pos hok, if_pos (by omega)]; rfl
  · unfold PP.doE PP.valE; rw [if_pos hok, if_pos (by omega)]; rfl
  · unfold PP.doT; rw [hok, Bool.true_and, if_neg (by simp; omega)]
set_option maxHeartbeats 2000000 in
theorem sums_any (x y z : Int) (w : World) (ux : WP.U x) (uy : WP.U y) (uz : (Lit.int .u8 z).wf = true) (hT : CT w) : Calls Tryd.prog 7 #[.int .u64 x, .int .u64 y, .int .u8 z] w fun e w' => e = .returned (.bool true) ∧ Below w.heap.size w w' := by
  have HT := Lib.hid hT
  obtain ⟨z0, z1⟩ := u8_of uz
  obtain ⟨k, hk⟩ : ∃ k : Nat, z % 7 = k := ⟨(z % 7).toNat, by omega⟩
  have hk7 : k < 7 := by omega
  have hix := sign_ix k hk7
  unfold sgnS at hix
  obtain ⟨d1, d2, d3⟩ := doW_num 9 [] (k + 1) x y (by omega) (by omega)
  have HD := Lib.hid (fun W => WW.do_any (PP.sgn ((k : Int) + 1)) x y ux uy W)
  have hca : (((k + 1 : Nat) : Int)) = (k : Int) + 1 := by omega
  rw [hca] at d1 d2 d3
  have HN := Lib.hid (fun (W : World) (b o c : Nat) (hc : CT W) (ha : A2 W b o x y) => do_num hc (.pointer none) (k + 1) b o c x y ha (by omega) (by omega))
  rw [hca] at HN
  generalize WP.doW (PP.sgn ((k : Int) + 1)) x y = rw_ at *
  generalize WP.doE (PP.sgn ((k : Int) + 1)) x y = re at *
  generalize PP.sgn ((k : Int) + 1) = s at *
  have D1 := Lib.hid d1
  have D2 := Lib.hid d2
  have D3 := Lib.hid d3
  have UX := Lib.hid ux
  have UY := Lib.hid uy
  clear hT uz d1 d2 d3 hca ux uy
  go_enter Tryd.func7, Tryd.ntmps7
  go_wp2_with (fail)
  refine (shown_any HT.out).mono ?_
  rintro e w0 ⟨rfl, hF0⟩
  go_wp2_with (fail)
  refine (new_int w0 9 (by omega) (by omega)).mono ?_
  rintro e w1 ⟨p, g, h, rfl, hp, hg, hh, hA1, hF1⟩
  have hs : ∀ b, b ∈ [p, g, h] → b < w.heap.size → b ∈ ([] : List Nat) := by
    intro b hb; have := hF0.size; simp at hb; omega
  have F1 := hF0.trans hF1 (by simp)
  go_wp2_with (fail)
  refine (do_new (HT.out.far F1) hA1 ((k : Int) + 1) [x, y] 2 2 rw_ re [] rfl (by omega) (by intro z hz; simp at hz; rcases hz with rfl | rfl; exact UX.out; exact UY.out) D1.out D2.out D3.out).mono ?_
  rintro e w2 ⟨rfl, hA2, hF2⟩
  have F2 := F1.trans hF2 hs
  go_wp2_with (fail)
  refine (HD.out _).mono ?_
  rintro e w3 ⟨rfl, rfl⟩
  go_wp2_with (fail)
  have hr := MM.Row.new w2 36 [.int .u64 x, .int .u64 y]
  have F3 := F2.alloc (.cells #[.int .u64 x, .int .u64 y] 36)
  refine (HN.out _ _ _ _ (HT.out.far F3) ⟨hr.at (i := 0) rfl, hr.at (i := 1) rfl, UX.out, UY.out⟩).mono ?_
  rintro e w4 ⟨rfl, hF4⟩
  have hA4 := (hA2.far ((MM.Far.refl [] w2).alloc (.cells #[.int .u64 x, .int .u64 y] 36)) (by simp) (by simp) (by simp)).far hF4 (by simp) (by simp) (by simp)
  have F4 := F3.trans hF4 (by simp)
  have HA4 := Lib.hid hA4
  go_wp2_with (first | (go_at_call 16; refine (used_any HA4.out).mono ?_; rintro e w' ⟨rfl, rfl⟩))
  go_ret
  exact ⟨rfl, F4.below_nil⟩
end PW
end Go.Proofs.YtoikfpaocgikcaaDoor
