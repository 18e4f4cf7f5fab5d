/-
  Contract of the builder's String, the builder being a field of the printer. No condition.
-/
import Derived.Test.YtbglcdjimipeeaaGreatDoorShowMem
import Derived.Lib.UnsafeStr
namespace Go.Proofs.YtbglcdjimipeeaaGreatDoor
open Go.RowKit
namespace SW
open LX RX RW6
open RC6 (form_)
section
variable {w0 w : World} {q : Nat} {dv pv bv ov : Value} {T : List UInt8} {os : List Op}
set_option maxHeartbeats 2000000 in
set_option maxRecDepth 100000 in
theorem string_any (h : PrV w0 w q dv pv bv ov T os) : Calls Tryz.prog 31 #[.pointer (some ⟨q, 1, none⟩)] w fun e w' => e = .returned (.string (str T)) ∧ MM.Far [] w0 w' := by
  have c2 : w.drew.cell? ⟨q, 2, none⟩ = some bv := h.head.drew.at (i := 2) rfl
  have c2' : w.cell? ⟨q, 2, none⟩ = some bv := h.head.at (i := 2) rfl
  have hown := h.buf
  have hq := h.head.lt
  have HP := Lib.hid h
  have hF := Lib.hid h.far
  clear h
  by_cases hT : T = []
  · subst hT
    have hUS : ∀ (W : World) (x : Option Addr), (Builtin.unsafeString_ #[128, 3] 9 #[.pointer x, .int .i64 0]).run Tryz.prog W = .ok (.string .empty) W := fun W x => Lib.run_unsafeString_none W _ _ _ x
    rcases hown.2 with ⟨rfl, _⟩ | ⟨g, cap, cur, rfl, hbg, hg, _⟩
    · have hSD : ∀ W : World, (Builtin.unsafeSliceData_ #[72] 128 #[.slice none 0 0]).run Tryz.prog W = .ok (.pointer none) W := fun W => rfl
      go_enter Tryz.func31, Tryz.ntmps31
      go_wp2
      go_region
      all_goals
        go_wp2
        go_ret
        exact ⟨rfl, hF.out.drew⟩
    · simp only [List.length_nil] at c2 c2'
      by_cases hc0 : cap = 0
      · subst hc0
        have hsh : w.drew.shape? g = some (5, cur.size) := by
          have hg' : w.drew.heap[g]? = some (.cells cur 5 (0, 0)) := hg
          simp [World.shape?, hg']
        have hSD : (Builtin.unsafeSliceData_ #[72] 128 #[.slice (some ⟨g, 0, none⟩) 0 0]).run Tryz.prog w.drew = .ok (.pointer (some ⟨w.drew.heap.size, 0, none⟩)) (w.drew.alloc (.view ⟨g, 0, none⟩ 5)) :=
          Lib.run_unsafeSliceData_zero w.drew _ _ 5 Tryz.underlying128 ⟨g, 0, none⟩ 0 _ hsh
        have c3 : (w.alloc (.view ⟨g, 0, none⟩ 5)).drew.cell? ⟨q, 2, none⟩ = some (.slice (some ⟨g, 0, none⟩) 0 0) := ((HP.out.to ((MM.Far.refl [] w).alloc (.view ⟨g, 0, none⟩ 5)))).head.at (i := 2) rfl
        have c4 : (w.alloc (.view ⟨g, 0, none⟩ 5)).cell? ⟨q, 2, none⟩ = some (.slice (some ⟨g, 0, none⟩) 0 0) := c3
        go_enter Tryz.func31, Tryz.ntmps31
        go_wp2
        go_region
        all_goals
          go_wp2
          go_ret
          exact ⟨rfl, (hF.out.alloc _).drew⟩
      · have hSD : ∀ W : World, (Builtin.unsafeSliceData_ #[72] 128 #[.slice (some ⟨g, 0, none⟩) 0 cap]).run Tryz.prog W = .ok (.pointer (some ⟨g, 0, none⟩)) W := fun W => Lib.run_unsafeSliceData_row _ _ _ _ _ _ hc0
        clear hc0
        go_enter Tryz.func31, Tryz.ntmps31
        go_wp2
        go_region
        all_goals
          go_wp2
          go_ret
          exact ⟨rfl, hF.out.drew⟩
  · have hl0 : T.length ≠ 0 := by simpa using hT
    rcases hown.2 with ⟨_, hz⟩ | ⟨g, cap, cur, rfl, hbg, hg, hnc, hcm, hcs, htake⟩
    · exact absurd hz hl0
    · have hSD : (Builtin.unsafeSliceData_ #[72] 128 #[.slice (some ⟨g, 0, none⟩) T.length cap]).run Tryz.prog w.drew = .ok (.pointer (some ⟨g, 0, none⟩)) w.drew :=
        Lib.run_unsafeSliceData_row _ _ _ _ _ _ (by omega)
      have hUS : (Builtin.unsafeString_ #[128, 3] 9 #[.pointer (some ⟨g, 0, none⟩), .int .i64 T.length]).run Tryz.prog w.drew = .ok (.string ⟨T.toArray⟩) (w.drew.freeze ⟨g, 0, none⟩ T.length) := by
        refine Lib.run_unsafeString_row w.drew 128 3 9 5 Tryz.underlying128 (by kernel_rfl) g cur.size (by have hg' : w.drew.heap[g]? = some (.cells cur 5 (0, 0)) := hg; simp [World.shape?, hg']) T hT (by omega) (by unfold maxLen at hcm; omega) ?_
        intro j x hx
        have := hown.cells (g := g) rfl j (.int .u8 x.toNat) (by simp [Lib.byteCells, hx])
        exact this
      have hbel : MM.Far [] w0 (w.drew.freeze ⟨g, 0, none⟩ T.length) := MM.Far.of_below (Lib.below_freeze hF.out.drew.below_nil (p := ⟨g, 0, none⟩) hbg _) []
      have HBEL := Lib.hid hbel
      clear hbel hT hl0 hown hcs htake hnc hcm hg
      go_enter Tryz.func31, Tryz.ntmps31
      go_wp2
      go_region
      all_goals
        go_wp2
        go_ret
        exact ⟨rfl, HBEL.out⟩
end
end SW
end Go.Proofs.YtbglcdjimipeeaaGreatDoor
