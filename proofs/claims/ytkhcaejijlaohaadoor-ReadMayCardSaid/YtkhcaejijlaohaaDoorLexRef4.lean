/-
  Contract of the document's own part 'one' of layer 5: a word as a token. Conditions: the word is not empty and has at most 5000 letters.
-/
import Derived.Test.YtkhcaejijlaohaaDoorLexRef3
namespace Go.Proofs.YtkhcaejijlaohaaDoor
open Go.RowKit
namespace LW
open LX
theorem tok_info : (Tryd.prog.info? 48).map (fun i => (i.zero, i.size, i.bytes)) = some (some (.agg #[.int .u8 0, .int .i64 0, .int .i64 0, .string ⟨#[]⟩]), 4, 40) := by kernel_rfl
/-- A token as a value. -/
def tokV (kd a n : Int) (s : ByteArray) : Value := .agg #[.int .u8 kd, .int .i64 a, .int .i64 n, .string s]
def oneV (a : Int) : St → Value
  | .tok kd n s _ => .tuple #[tokV kd a n s, .int .i64 0]
  | .err e => .tuple #[tokV 0 0 0 emp, .int .i64 e]
  | .skip _ => .bool false
set_option maxHeartbeats 1000000 in
theorem one_any (s : ByteArray) (a : Nat) (hp : 0 < s.size) (hm : s.size ≤ 5000) (w : World) :
    Calls Tryd.prog 35 #[.string s, .int .i64 a] w fun e w' => e = .returned (oneV a (LX.one (bts s))) ∧ Below w.heap.size w w' := by
  have hN := Lib.hid (number_any s hp hm)
  have hlen := bts_len s
  by_cases hb : LX.number (bts s) = true
  · rw [hb] at hN
    have hb' : ¬ (LX.number (bts s) = false) := by rw [hb]; decide
    by_cases h14 : 14 < s.size
    · have e1 : LX.one (bts s) = .err 51 := by unfold LX.one; rw [if_neg hb', if_pos (by omega)]
      rw [e1]
      clear e1 hb hb' hlen
      go_enter Tryd.func35, Tryd.ntmps35
      go_wp2_with (go_at_call 43; refine (hN.out _).mono ?_; rintro e w' ⟨rfl, rfl⟩)
      exact bodyPost_ret (v := .tuple #[.agg #[.int .u8 0, .int .i64 0, .int .i64 0, .string ⟨#[]⟩], .int .i64 51]) (by simp [results, Tryd.results35, go_sem]) rfl ⟨rfl, (Below.refl _ _).alloc (Nat.le_refl _) _⟩
    · have hV := Lib.hid (value_any s hp (by omega) hb)
      obtain ⟨v, hv⟩ : ∃ v, LX.value (bts s) = v := ⟨_, rfl⟩
      by_cases h13 : 13 < s.size
      · have e1 : LX.one (bts s) = .err 51 := by unfold LX.one; rw [if_neg hb', if_pos (by omega)]
        rw [e1]
        rw [hv] at hV
        clear e1 hb hb' hlen hv
        go_enter Tryd.func35, Tryd.ntmps35
        go_wp2_with (first | (go_at_call 43; refine (hN.out _).mono ?_; rintro e w' ⟨rfl, rfl⟩) | (go_at_call 44; refine (hV.out _).mono ?_; rintro e w' ⟨rfl, rfl⟩))
        exact bodyPost_ret (v := .tuple #[.agg #[.int .u8 0, .int .i64 0, .int .i64 0, .string ⟨#[]⟩], .int .i64 51]) (by simp [results, Tryd.results35, go_sem]) rfl ⟨rfl, (Below.refl _ _).alloc (Nat.le_refl _) _⟩
      · by_cases h1 : v ≤ -1099511627776
        · have e1 : LX.one (bts s) = .err 51 := by unfold LX.one; rw [if_neg hb', if_neg (by omega), hv, if_pos (.inl h1)]
          rw [e1]
          rw [hv] at hV
          clear e1 hb hb' hlen hv
          go_enter Tryd.func35, Tryd.ntmps35
          go_wp2_with (first | (go_at_call 43; refine (hN.out _).mono ?_; rintro e w' ⟨rfl, rfl⟩) | (go_at_call 44; refine (hV.out _).mono ?_; rintro e w' ⟨rfl, rfl⟩))
          exact bodyPost_ret (v := .tuple #[.agg #[.int .u8 0, .int .i64 0, .int .i64 0, .string ⟨#[]⟩], .int .i64 51]) (by simp [results, Tryd.results35, go_sem]) rfl ⟨rfl, (Below.refl _ _).alloc (Nat.le_refl _) _⟩
        · by_cases h2 : 1099511627776 ≤ v
          · have e1 : LX.one (bts s) = .err 51 := by unfold LX.one; rw [if_neg hb', if_neg (by omega), hv, if_pos (.inr h2)]
            rw [e1]
            rw [hv] at hV
            clear e1 hb hb' hlen hv
            go_enter Tryd.func35, Tryd.ntmps35
            go_wp2_with (first | (go_at_call 43; refine (hN.out _).mono ?_; rintro e w' ⟨rfl, rfl⟩) | (go_at_call 44; refine (hV.out _).mono ?_; rintro e w' ⟨rfl, rfl⟩))
            exact bodyPost_ret (v := .tuple #[.agg #[.int .u8 0, .int .i64 0, .int .i64 0, .string ⟨#[]⟩], .int .i64 51]) (by simp [results, Tryd.results35, go_sem]) rfl ⟨rfl, (Below.refl _ _).alloc (Nat.le_refl _) _⟩
          · have e1 : LX.one (bts s) = .tok 4 v emp (bts s).length := by unfold LX.one; rw [if_neg hb', if_neg (by omega), hv, if_neg (by omega)]
            rw [e1]
            rw [hv] at hV
            clear e1 hb hb' hlen hv
            go_enter Tryd.func35, Tryd.ntmps35
            go_wp2_with (first | (go_at_call 43; refine (hN.out _).mono ?_; rintro e w' ⟨rfl, rfl⟩) | (go_at_call 44; refine (hV.out _).mono ?_; rintro e w' ⟨rfl, rfl⟩))
            exact bodyPost_ret (v := .tuple #[.agg #[.int .u8 4, .int .i64 a, .int .i64 v, .string ⟨#[]⟩], .int .i64 0]) (by simp [results, Tryd.results35, go_sem]) rfl ⟨rfl, (Below.refl _ _).alloc (Nat.le_refl _) _⟩
  · have hb : LX.number (bts s) = false := by simpa using hb
    rw [hb] at hN
    by_cases h32 : 32 < s.size
    · have e1 : LX.one (bts s) = .err 3 := by unfold LX.one; rw [if_pos hb, hlen, if_pos h32]
      rw [e1]
      clear e1 hb hlen
      go_enter Tryd.func35, Tryd.ntmps35
      go_wp2_with (go_at_call 43; refine (hN.out _).mono ?_; rintro e w' ⟨rfl, rfl⟩)
      exact bodyPost_ret (v := .tuple #[.agg #[.int .u8 0, .int .i64 0, .int .i64 0, .string ⟨#[]⟩], .int .i64 3]) (by simp [results, Tryd.results35, go_sem]) rfl ⟨rfl, (Below.refl _ _).alloc (Nat.le_refl _) _⟩
    · have e1 : LX.one (bts s) = .tok 6 0 s (bts s).length := by unfold LX.one; rw [if_pos hb, hlen, if_neg h32, str_bts]
      rw [e1]
      clear e1 hb hlen
      go_enter Tryd.func35, Tryd.ntmps35
      go_wp2_with (go_at_call 43; refine (hN.out _).mono ?_; rintro e w' ⟨rfl, rfl⟩)
      exact bodyPost_ret (v := .tuple #[.agg #[.int .u8 6, .int .i64 a, .int .i64 0, .string s], .int .i64 0]) (by simp [results, Tryd.results35, go_sem]) rfl ⟨rfl, (Below.refl _ _).alloc (Nat.le_refl _) _⟩
end LW
end Go.Proofs.YtkhcaejijlaohaaDoor
