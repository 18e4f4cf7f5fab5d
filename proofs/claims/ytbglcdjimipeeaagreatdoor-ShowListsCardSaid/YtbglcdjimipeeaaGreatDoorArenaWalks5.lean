/-
  Contracts of layer 2's New, and of a nil arena. No condition.
-/
import Derived.Test.YtbglcdjimipeeaaGreatDoorArenaWalks4
import Derived.RegionTactic
import Derived.ChangeAlike
namespace Go.Proofs.YtbglcdjimipeeaaGreatDoor
open Go.RowKit
namespace AW
/-- A new arena. -/
def Made (w : World) (n : Nat) (e : Ending) (w' : World) : Prop :=
  ∃ p g h, e = .returned (.tuple #[ptr p, .int .i64 0]) ∧ w.heap.size ≤ p ∧ w.heap.size ≤ g ∧ w.heap.size ≤ h ∧ Ar w' p g h n [] ∧ MM.Far [] w w'
theorem new_bad (w : World) (n : Int) (hb : n < 1 ∨ 65536 < n) : Calls Tryz.prog 14 #[.int .i64 n] w fun e w' => e = .returned (.tuple #[.pointer none, .int .i64 1]) ∧ w = w' := by
  by_cases h1 : n < 1
  · clear hb
    go_enter Tryz.func14, Tryz.ntmps14
    go_wp2
    go_ret2
    exact ⟨rfl, rfl⟩
  · have h2 : 65536 < n := by omega
    clear hb
    go_enter Tryz.func14, Tryz.ntmps14
    go_wp2
    go_ret2
    exact ⟨rfl, rfl⟩
theorem word_info : (Tryz.prog.info? 32).map (fun i => (i.zero, i.size, i.bytes)) = some (some (.int .u64 0), 1, 8) := by kernel_rfl
theorem kind_info : (Tryz.prog.info? 5).map (fun i => (i.zero, i.size, i.bytes)) = some (some (.int .u8 0), 1, 1) := by kernel_rfl
theorem kinds_slice : Tryz.prog.underlying 72 = some (.slice 5) := by kernel_rfl
theorem made_list (z : Value) (n : Nat) : madeCells #[z] n = (List.replicate n z).toArray := by
  apply Array.ext
  · simp [size_madeCells]
  · intro i h1 h2
    simp [madeCells, Nat.mod_one]
theorem ok_nil (n : Nat) (h2 : n ≤ 65536) : Ok n [] := ⟨h2, by simp [AP.sz], fun i hi => by simp at hi⟩
theorem words_nil (n : Nat) : U64s (AP.words n []) = List.replicate n (.int .u64 0) := by simp [U64s, AP.words, AP.fw, AP.sz]
theorem kinds_nil (n : Nat) : U8s (AP.kinds n []) = List.replicate n (.int .u8 0) := by simp [U8s, AP.kinds, AP.fk, AP.sz]
theorem made_one (w : World) (n : Nat) (h2 : n ≤ 65536) : Ar ((((w.alloc (.cells (madeCells #[.int .u64 0] n) 32)).alloc (.cells (madeCells #[.int .u8 0] n) 5)).alloc
    (.cells #[.slice (some ⟨w.heap.size, 0, none⟩) n n, .slice (some ⟨w.heap.size + 1, 0, none⟩) n n, .int .i64 0] 82)).drew) (w.heap.size + 1 + 1) w.heap.size (w.heap.size + 1) n [] := by
  rw [made_list, made_list]
  have hs : (w.alloc (.cells (List.replicate n (.int .u64 0)).toArray 32)).heap.size = w.heap.size + 1 := by simp
  have hs2 : ((w.alloc (.cells (List.replicate n (.int .u64 0)).toArray 32)).alloc (.cells (List.replicate n (.int .u8 0)).toArray 5)).heap.size = w.heap.size + 1 + 1 := by simp
  refine ⟨ok_nil n h2, ?_, ?_, ?_⟩
  · rw [← hs2]
    exact (MM.Row.new _ _ [.slice (some ⟨w.heap.size, 0, none⟩) n n, .slice (some ⟨w.heap.size + 1, 0, none⟩) n n, .int .i64 0]).drew
  · rw [words_nil]
    exact (((MM.Row.new _ _ _).alloc _).alloc _).drew
  · rw [kinds_nil, ← hs]
    exact ((MM.Row.new _ _ _).alloc _).drew
theorem made_two (w : World) (n : Nat) (h2 : n ≤ 65536) : Ar ((((w.alloc (.cells (madeCells #[.int .u8 0] n) 5)).alloc (.cells (madeCells #[.int .u64 0] n) 32)).alloc
    (.cells #[.slice (some ⟨w.heap.size + 1, 0, none⟩) n n, .slice (some ⟨w.heap.size, 0, none⟩) n n, .int .i64 0] 82)).drew) (w.heap.size + 1 + 1) (w.heap.size + 1) w.heap.size n [] := by
  rw [made_list, made_list]
  have hs : (w.alloc (.cells (List.replicate n (.int .u8 0)).toArray 5)).heap.size = w.heap.size + 1 := by simp
  have hs2 : ((w.alloc (.cells (List.replicate n (.int .u8 0)).toArray 5)).alloc (.cells (List.replicate n (.int .u64 0)).toArray 32)).heap.size = w.heap.size + 1 + 1 := by simp
  refine ⟨ok_nil n h2, ?_, ?_, ?_⟩
  · rw [← hs2]
    exact (MM.Row.new _ _ [.slice (some ⟨w.heap.size + 1, 0, none⟩) n n, .slice (some ⟨w.heap.size, 0, none⟩) n n, .int .i64 0]).drew
  · rw [words_nil, ← hs]
    exact ((MM.Row.new _ _ _).alloc _).drew
  · rw [kinds_nil]
    exact (((MM.Row.new _ _ _).alloc _).alloc _).drew
theorem new_ok (w : World) (n : Nat) (h1 : 1 ≤ n) (h2 : n ≤ 65536) : Calls Tryz.prog 14 #[.int .i64 n] w (Made w n) := by
  have hm1 := run_make_row' (P := Tryz.prog) 41 32 (.int .u64 0) 8 words_slice word_info rfl .i64 .i64 n (by omega) (by omega)
  have hm2 := run_make_row' (P := Tryz.prog) 72 5 (.int .u8 0) 1 kinds_slice kind_info rfl .i64 .i64 n (by omega) (by omega)
  go_enter Tryz.func14, Tryz.ntmps14
  go_wp2
  go_region
  · go_wp2
    go_ret2
    exact ⟨_, _, _, rfl, by omega, by omega, by omega, made_one w n h2, ((((MM.Far.refl _ _).alloc _).alloc _).alloc _).drew⟩
  · go_wp2
    go_ret2
    exact ⟨_, _, _, rfl, by omega, by omega, by omega, made_two w n h2, ((((MM.Far.refl _ _).alloc _).alloc _).alloc _).drew⟩
/-! ### a nil arena -/
theorem find_nil (x : Int) (hx : WP.U x) (w : World) : Calls Tryz.prog 94 #[.pointer none, .int .u64 x] w fun e w' => e = .returned (.tuple #[.int .i64 0, .bool false]) ∧ w = w' := by
  obtain ⟨a, ha, hal⟩ := toN_nat x hx
  have HX := Lib.hid hx
  clear hx
  cases hb : WP.toB 1 x
  all_goals
    go_enter Tryz.func94, Tryz.ntmps94
    go_wp2_with (first | (go_at_call 79; refine (WW.to_any _ _ HX.out _).mono ?_; rintro e w' ⟨rfl, rfl⟩) | (go_at_call 35; refine (used_nil _).mono ?_; rintro e w' ⟨rfl, rfl⟩))
    go_ret2
    exact ⟨rfl, rfl⟩
theorem kind_nil (x : Int) (hx : WP.U x) (w : World) : Calls Tryz.prog 75 #[.pointer none, .int .u64 x] w fun e w' => e = .returned (.int .i64 0) ∧ w = w' := by
  have HX := Lib.hid hx
  clear hx
  go_enter Tryz.func75, Tryz.ntmps75
  go_wp2_with (first | (go_at_call 94; refine (find_nil _ HX.out _).mono ?_; rintro e w' ⟨rfl, rfl⟩))
  go_ret
  exact ⟨rfl, rfl⟩
theorem len_nil (x : Int) (hx : WP.U x) (w : World) : Calls Tryz.prog 76 #[.pointer none, .int .u64 x] w fun e w' => e = .returned (.int .i64 0) ∧ w = w' := by
  have HX := Lib.hid hx
  clear hx
  go_enter Tryz.func76, Tryz.ntmps76
  go_wp2_with (first | (go_at_call 94; refine (find_nil _ HX.out _).mono ?_; rintro e w' ⟨rfl, rfl⟩))
  go_ret
  exact ⟨rfl, rfl⟩
theorem field_nil (x : Int) (hx : WP.U x) (j : Int) (w : World) : Calls Tryz.prog 106 #[.pointer none, .int .u64 x, .int .i64 j] w fun e w' => e = .returned (.tuple #[.pointer none, .int .i64 2]) ∧ w = w' := by
  have HX := Lib.hid hx
  clear hx
  go_enter Tryz.func106, Tryz.ntmps106
  go_wp2_with (first | (go_at_call 94; refine (find_nil _ HX.out _).mono ?_; rintro e w' ⟨rfl, rfl⟩))
  go_ret2
  exact ⟨rfl, rfl⟩
theorem get_nil (x : Int) (hx : WP.U x) (j : Int) (w : World) : Calls Tryz.prog 95 #[.pointer none, .int .u64 x, .int .i64 j] w fun e w' => e = .returned (.tuple #[.int .u64 0, .int .i64 2]) ∧ w = w' := by
  have HX := Lib.hid hx
  clear hx
  go_enter Tryz.func95, Tryz.ntmps95
  go_wp2_with (first | (go_at_call 106; refine (field_nil _ HX.out _ _).mono ?_; rintro e w' ⟨rfl, rfl⟩))
  go_ret2
  exact ⟨rfl, rfl⟩
theorem alloc_nil (k : Int) (A : Option Addr) (m c : Nat) (h1 : 1 ≤ k) (h9 : k ≤ 9) (hm : m ≤ 255) (w : World) : Calls Tryz.prog 17 #[.pointer none, .int .i64 k, .slice A m c] w fun e w' => e = .returned (.tuple #[.int .u64 0, .int .i64 20]) ∧ w = w' := by
  go_enter Tryz.func17, Tryz.ntmps17
  go_wp2_with (first | (go_at_call 34; refine (size_nil _).mono ?_; rintro e w' ⟨rfl, rfl⟩) | (go_at_call 35; refine (used_nil _).mono ?_; rintro e w' ⟨rfl, rfl⟩))
  go_ret2
  exact ⟨rfl, rfl⟩
/-- Alloc, whatever it is handed. -/
theorem alloc_any {w : World} {p g h n : Nat} {ts : List AP.Th} (hA : Ar w p g h n ts) (k : Int) (A : Option Addr) (c : Nat) (fs : List Int) (hm : fs.length ≤ 9223372036854775807) (hu : ∀ x ∈ fs, WP.U x) (hs : MM.Src w [p, g, h] A (U64s fs)) :
    Calls Tryz.prog 17 #[ptr p, .int .i64 k, .slice A fs.length c] w fun e w' => e = .returned (.tuple #[.int .u64 (allW n ts k fs.length), .int .i64 (allE n ts k fs.length)]) ∧ Ar w' p g h n (allT n ts k fs) ∧ MM.Far [p, g, h] w w' := by
  by_cases hb : k < 1 ∨ 9 < k ∨ 255 < fs.length
  · refine (alloc_bad w _ k A fs.length c hm hb).mono ?_
    rintro e w' ⟨rfl, rfl⟩
    have e1 : allE n ts k fs.length = 1 := by unfold allE; rw [if_pos hb]
    refine ⟨by simp [allW, e1], by unfold allT; rw [if_neg (by omega)]; exact hA, MM.Far.refl _ _⟩
  · by_cases hr : n ≤ AP.sz ts + fs.length
    · refine (alloc_full hA k A fs.length c (by omega) (by omega) (by omega) hr).mono ?_
      rintro e w' ⟨rfl, rfl⟩
      have e1 : allE n ts k fs.length = 20 := by unfold allE; rw [if_neg hb, if_pos hr]
      refine ⟨by simp [allW, e1], by unfold allT; rw [if_neg (by omega)]; exact hA, MM.Far.refl _ _⟩
    · refine (alloc_ok hA k A c fs (by omega) (by omega) (by omega) (by omega) hu hs).mono ?_
      rintro e w' ⟨rfl, h1, h2⟩
      have e1 : allE n ts k fs.length = 0 := by unfold allE; rw [if_neg hb, if_neg hr]
      refine ⟨by simp [allW, e1], by unfold allT; rw [if_pos e1]; exact h1, h2⟩
end AW
end Go.Proofs.YtbglcdjimipeeaaGreatDoor
