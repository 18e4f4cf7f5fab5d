/-
  TimerFull: MaxTimers may wait, a number is never given twice, nil timers have none. No condition.
-/
import Derived.Test.YtcodmpibhlojaaaTimAt
namespace Go.Proofs.Ytcodmpibhlojaaa
open Go.RowKit Go.Lib
namespace TW
open TM TR MM TL
def rowK (k : Nat) : List Ti := (List.range k).map fun i : Nat => (⟨(i : Int), (i : Int), (i : Int)⟩ : Ti)
theorem rowK_len (k : Nat) : (rowK k).length = k := by simp [rowK]
theorem ins_last (x : Ti) : ∀ l : List Ti, (∀ y ∈ l, ¬ x.d < y.d) → ins x l = l ++ [x]
  | [], _ => rfl
  | y :: r, h => by
    unfold ins
    rw [if_neg (h y (List.mem_cons_self ..)), ins_last x r (fun z hz => h z (List.mem_cons_of_mem _ hz))]
    rfl
theorem rowK_step (k : Nat) : ins ⟨k, k, k⟩ (rowK k) = rowK (k + 1) := by
  rw [ins_last]
  · simp [rowK, List.range_succ]
  · intro y hy
    obtain ⟨i, hi, rfl⟩ := List.mem_map.1 hy
    have := List.mem_range.1 hi
    simp
    omega
set_option maxHeartbeats 2000000 in
theorem full_law (now : Int) (w : World) : Calls Try.prog 5 #[.int .i64 now] w fun e w' => e = .returned (.bool true) ∧ Below w.heap.size w w' := by
  have hr7 : ∃ r, tk (isN 7) (rowK 64) = some (7, r) ∧ r.length = 63 ∧ tk (isN 7) r = none := ⟨(rowK 64).eraseIdx 7, by kernel_rfl, by kernel_rfl, by kernel_rfl⟩
  obtain ⟨r7, e7, l7, n7⟩ := hr7
  have E7 := Lib.hid e7
  have N7 := Lib.hid n7
  clear e7 n7
  go_enter Try.func5, Try.ntmps5
  go_wp2_with (first
    | (go_at_call 8; refine (shown_any w).mono ?_; rintro e w1 ⟨rfl, h1⟩; have HS := Lib.hid h1; clear h1)
    | (go_at_call 9; refine (at_new w _ HS.out).mono ?_; rintro e w1 ⟨p, rfl, h1⟩; have H := Lib.hid h1; clear h1))
  go_loopg [29] 64 (fun gg s29 wr => ∃ k : Nat, k ≤ 64 ∧ 64 - k ≤ gg ∧ s29 = .int .i64 k ∧ At w wr p (rowK k) k)
  case atStart => exact ⟨0, by omega, by omega, rfl, H.out⟩
  case round =>
    obtain ⟨k, hk, hg, rfl, hA⟩ := hrel
    have HA := Lib.hid hA
    clear hA H HS
    by_cases hlt : k < 64
    · have hltz : (k : Int) < 64 := by omega
      go_wp2_with (go_at_call 10; (refine (at_put HA.out (by rw [rowK_len]; omega) (by omega) k k _ (rowK_step k)).mono ?_); rintro e w2 ⟨rfl, h2⟩; have H2 := Lib.hid h2; clear h2)
      go_roundg (64 - (k + 1))
      case measure => omega
      case rel => exact ⟨k + 1, by omega, by omega, by go_num, H2.out⟩
    · have hltz : ¬ (k : Int) < 64 := by omega
      have : k = 64 := by omega
      subst this
      go_wp2_with (first
        | (go_at_call 10; (refine (at_full HA.out (by rw [rowK_len]; omega) 0 0).mono ?_); rintro e w2 ⟨rfl, rfl⟩)
        | (go_at_call 14; (refine (at_remove HA.out (by rw [rowK_len]; omega) 7 7 r7 E7.out).mono ?_); rintro e w3 ⟨rfl, h3⟩; have H3 := Lib.hid h3; clear h3 HA)
        | (go_at_call 14; (refine (at_unremove H3.out (by omega) 7 N7.out).mono ?_); rintro e w4 ⟨rfl, h4⟩; have H4 := Lib.hid h4; clear h4 H3)
        | (go_at_call 10; (refine (at_put H4.out (by omega) (by omega) 7 7 _ rfl).mono ?_); rintro e w5 ⟨rfl, h5⟩; have H5 := Lib.hid h5.far; clear h5 H4)
        | (go_at_call 10; (refine (put_nil _ _ _).mono ?_); rintro e w6 ⟨rfl, rfl⟩)
        | (go_at_call 12; (refine (due_nil _ _).mono ?_); rintro e w6 ⟨rfl, h6⟩; have H6 := Lib.hid (H5.out.trans h6 (by simp)); clear h6 H5)
        | (go_at_call 16; (refine (next_nil _).mono ?_); rintro e w6 ⟨rfl, rfl⟩)
        | (go_at_call 14; (refine (remove_nil _ _).mono ?_); rintro e w7 ⟨rfl, h7⟩; have H7 := Lib.hid (H6.out.trans h7 (by simp)); clear h7 H6)
        | (go_at_call 18; (refine (len_nil _).mono ?_); rintro e w6 ⟨rfl, rfl⟩))
      go_ret
      exact ⟨rfl, H7.out.below_nil⟩
end TW
end Go.Proofs.Ytcodmpibhlojaaa
