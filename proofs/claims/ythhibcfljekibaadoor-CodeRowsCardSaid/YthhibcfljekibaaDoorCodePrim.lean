/-
  Contract of layer 9's Prim, as layer 11 calls it. Condition: the program's table of primitives.
-/
import Derived.Test.YthhibcfljekibaaDoorCodeFld
import Derived.Laws.Rows
import Derived.Deep.QuietTactic
namespace Go.Proofs.YthhibcfljekibaaDoor
open Go.RowKit
set_option linter.unusedVariables false
namespace KP
def emp : ByteArray := ⟨#[]⟩
def primN : List ByteArray := namL.map fun l => ⟨l.toArray⟩
def primM : List Nat := [2, 2, 2, 2, 2, 2, 2, 2, 1, 1, 1, 2, 1, 1, 1, 1, 1, 1, 1, 1, 1, 2, 1, 0, 2, 2, 1, 2, 1, 0]
instance lawB : LawfulBEq ByteArray where
  eq_of_beq {a b} h := by
    exact ByteArray.ext (eq_of_beq (α := Array UInt8) h)
  rfl {a} := by
    cases a
    exact beq_self_eq_true (α := Array UInt8) _
def isPrim (s : ByteArray) : Bool := decide (s ∈ primN)
def primO (s : ByteArray) : Nat := if s ∈ primN then primN.idxOf s + 1 else 0
def primK (s : ByteArray) : Nat := if s ∈ primN then primM.getD (primN.idxOf s) 0 else 0
end KP
namespace KW
open KP
theorem eq_no {a b : ByteArray} (h : a ≠ b) : (a.toList == b.toList) = false := by
  rw [beq_eq_false_iff_ne]
  intro e
  rw [Lib.toList_data, Lib.toList_data] at e
  exact h (ByteArray.ext (Array.toList_inj.1 e))
def primC : List Value := [.string emp, .int .i64 0] ++ (primN.zip primM).flatMap fun x => [.string x.1, .int .i64 (x.2 : Nat)]
/-- The primitives' table. -/
def PT (w : World) : Prop := w.var? Tryd.prog "eddywheel/scope.primitives" = some primC.toArray
theorem pt_named : Tryd.prog.globalNamed "eddywheel/scope.primitives" = some 1 := by kernel_rfl
theorem PT.far {W w : World} (h : PT W) (f : MM.Far [] W w) : PT w := by
  unfold PT World.var? at *
  rw [pt_named] at h ⊢
  simp only [Option.bind_some] at h ⊢
  have hlt : 1 < W.heap.size := by
    rcases Nat.lt_or_ge 1 W.heap.size with hb | hb
    · exact hb
    · rw [Array.getElem?_eq_none hb] at h; cases h
  rw [f.block _ hlt (by simp)]
  exact h
theorem PT.obj {w : World} (h : PT w) : ∃ t fr, w.heap[1]? = some (.cells primC.toArray t fr) := by
  unfold PT World.var? at h
  rw [pt_named] at h
  simp only [Option.bind_some] at h
  split at h
  · rename_i cs t fr e
    injection h with h
    subst h
    exact ⟨t, fr, e⟩
  · cases h
theorem pt_size : (Tryd.prog.info? 71).map (·.size) = some 62 := by kernel_rfl
theorem primC_size : primC.toArray.size = 62 := by decide
def nmP (k : Nat) : ByteArray := if k = 0 then emp else primN.getD (k - 1) emp
def mnP (k : Nat) : Nat := if k = 0 then 0 else primM.getD (k - 1) 0
theorem prim_ix (W : World) (k : Nat) (hk : k < 31) : (Instr.index 71 (.agg primC.toArray) (.int .i64 (k : Nat))).run Tryd.prog W = .ok (.agg #[.string (nmP k), .int .i64 (mnP k : Nat)]) W :=
  match k, hk with
  | 0, _ => by kernel_rfl
  | 1, _ => by kernel_rfl
  | 2, _ => by kernel_rfl
  | 3, _ => by kernel_rfl
  | 4, _ => by kernel_rfl
  | 5, _ => by kernel_rfl
  | 6, _ => by kernel_rfl
  | 7, _ => by kernel_rfl
  | 8, _ => by kernel_rfl
  | 9, _ => by kernel_rfl
  | 10, _ => by kernel_rfl
  | 11, _ => by kernel_rfl
  | 12, _ => by kernel_rfl
  | 13, _ => by kernel_rfl
  | 14, _ => by kernel_rfl
  | 15, _ => by kernel_rfl
  | 16, _ => by kernel_rfl
  | 17, _ => by kernel_rfl
  | 18, _ => by kernel_rfl
  | 19, _ => by kernel_rfl
  | 20, _ => by kernel_rfl
  | 21, _ => by kernel_rfl
  | 22, _ => by kernel_rfl
  | 23, _ => by kernel_rfl
  | 24, _ => by kernel_rfl
  | 25, _ => by kernel_rfl
  | 26, _ => by kernel_rfl
  | 27, _ => by kernel_rfl
  | 28, _ => by kernel_rfl
  | 29, _ => by kernel_rfl
  | 30, _ => by kernel_rfl
  | n + 31, h => absurd h (by omega)
section
variable {w : World}
set_option maxHeartbeats 4000000 in
set_option maxRecDepth 20000 in
theorem prim_any (h : PT w) (s : ByteArray) : Calls Tryd.prog 19 #[.string s] w fun e w' => e = .returned (.tuple #[num (primO s), num (primK s), .bool (isPrim s)]) ∧ MM.Far [] w w' := by
  obtain ⟨tt, fr, hg⟩ := h.obj
  obtain ⟨cs, hcs⟩ : ∃ cs, primC.toArray = cs := ⟨_, rfl⟩
  have hsz := primC_size
  rw [hcs] at hg hsz
  have HCS := Lib.hid hcs
  have hi : (Tryd.prog.info? 71).map (·.size) = some cs.size := by rw [hsz]; exact pt_size
  have HG := Lib.hid hg
  have HSZ := Lib.hid hsz
  have HI := Lib.hid hi
  clear hcs h hg hsz hi
  go_enter Tryd.func19, Tryd.ntmps19
  go_wp2_with (first
    | (refine wpList_load_row rfl 71 (.global 1) rfl 1 rfl tt cs fr _ HG.out Tryd.underlying71 rfl HI.out ?_)
    | (refine wp_load_row 71 (.global 1) rfl 1 rfl tt cs fr _ HG.out Tryd.underlying71 rfl HI.out ?_))
  go_loopw [8] (fun s8 wr => ∃ k : Nat, k ≤ 31 ∧ s8 = .int .i64 (k : Int) ∧ Hid (MM.Far [] w wr ∧ ∀ j, j + 1 < k → primN.getD j emp ≠ s)) (fun s8 _ => 31 - (intOf s8).toNat)
  case atStart => exact ⟨0, by omega, rfl, Lib.hid ⟨MM.Far.refl _ _, fun j hj => by omega⟩⟩
  case round =>
    obtain ⟨k, hk, rfl, hH⟩ := hrel
    by_cases hlt : k < 31
    · have hi0 : (0 : Int) ≤ (k : Int) := by omega
      have hi1 : (k : Int) < 31 := by omega
      have hidx := fun W => prim_ix W k hlt
      rw [HCS.out] at hidx
      have HN : Hid (nmP k = if k = 0 then emp else primN.getD (k - 1) emp) := Lib.hid rfl
      have HK : Hid (mnP k = if k = 0 then 0 else primM.getD (k - 1) 0) := Lib.hid rfl
      generalize nmP k = x at *
      generalize mnP k = y at *
      by_cases hk0 : k = 0
      · have hg0 : ¬ (0 : Int) < (k : Int) := by omega
        have HK0 := Lib.hid hk0
        clear hk0 HN HK
        go_wp2
        go_roundw
        case rel => exact ⟨k + 1, by omega, by go_num, Lib.hid ⟨hH.out.1.alloc _, fun j hj => by have := HK0.out; omega⟩⟩
        case measure => simp [intOf]; omega
      · have hg0 : (0 : Int) < (k : Int) := by omega
        rw [if_neg hk0] at HN HK
        by_cases hx : x = s
        · subst hx
          go_wp2
          go_quiet (fail)
          go_wp2
          go_ret3
          have hpp : primO x = k ∧ primK x = y ∧ isPrim x = true := by
            have hN := HN.out
            have hl : primN.length = 30 := rfl
            rw [List.getD_eq_getElem?_getD, List.getElem?_eq_getElem (by omega)] at hN
            have hN : x = primN[k - 1] := hN
            have hm : x ∈ primN := by rw [hN]; exact List.getElem_mem _
            have hix : primN.idxOf x = k - 1 := by
              have hnd : primN.Nodup := by decide
              rw [hN]; exact hnd.idxOf_getElem _ _
            unfold primO primK isPrim
            rw [if_pos hm, if_pos hm, decide_eq_true hm, hix, HK.out]
            exact ⟨by omega, rfl, rfl⟩
          rw [hpp.1, hpp.2.1, hpp.2.2]
          exact ⟨rfl, (hH.out.1.alloc _).drewN _⟩
        · have heq : (x.toList == s.toList) = false := eq_no hx
          go_wp2
          go_roundw
          case rel =>
            refine ⟨k + 1, by omega, by go_num, Lib.hid ⟨hH.out.1.alloc _, fun j hj => ?_⟩⟩
            by_cases e : j + 1 = k
            · have := HN.out
              rw [show k - 1 = j by omega] at this
              rw [← this]; exact hx
            · exact hH.out.2 j (by omega)
          case measure => simp [intOf]; omega
    · obtain rfl : k = 31 := by omega
      go_wp2
      go_ret3
      refine ⟨?_, hH.out.1⟩
      have hno : s ∉ primN := fun hm => by
        obtain ⟨j, hj, e⟩ := List.getElem_of_mem hm
        have hl : primN.length = 30 := rfl
        refine hH.out.2 j (by omega) ?_
        rw [List.getD_eq_getElem?_getD, List.getElem?_eq_getElem hj]
        exact e
      unfold primO primK isPrim
      rw [if_neg hno, if_neg hno, decide_eq_false hno]
      rfl
end
end KW
end Go.Proofs.YthhibcfljekibaaDoor
