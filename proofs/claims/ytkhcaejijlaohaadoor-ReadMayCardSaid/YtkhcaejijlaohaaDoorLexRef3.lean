/-
  Contracts of the document's own parts of layer 5: number and value, over any word. Conditions: the word is not empty; for value, it is a number of at most 14 letters.
-/
import Derived.Test.YtkhcaejijlaohaaDoorLexRef2
namespace Go.Proofs.YtkhcaejijlaohaaDoor
open Go.RowKit
namespace LX
theorem bts_str (l : List UInt8) : bts (str l) = l := by unfold bts str; simp
theorem str_bts (s : ByteArray) : str (bts s) = s := by
  apply ByteArray.ext
  unfold str bts
  simp
theorem str_size (l : List UInt8) : (str l).size = l.length := by unfold str; show l.toArray.size = _; simp
theorem val_snoc (l : List UInt8) (c : UInt8) : val (l ++ [c]) = val l * 10 + ((c.toNat : Int) - 48) := by
  unfold val; rw [List.foldl_append]; rfl
theorem val_fold (l : List UInt8) : ∀ a : Int, 0 ≤ a → l.all dig = true → 0 ≤ l.foldl (fun n c => n * 10 + ((c.toNat : Int) - 48)) a ∧ l.foldl (fun n c => n * 10 + ((c.toNat : Int) - 48)) a < (a + 1) * (10 : Int) ^ l.length := by
  induction l with
  | nil => intro a ha _; simp; omega
  | cons c l ih =>
    intro a ha h
    rw [List.all_cons, Bool.and_eq_true] at h
    have hc : 48 ≤ c.toNat ∧ c.toNat ≤ 57 := by have := h.1; simpa [dig] using this
    obtain ⟨h1, h2⟩ := ih (a * 10 + ((c.toNat : Int) - 48)) (by omega) h.2
    refine ⟨h1, Int.lt_of_lt_of_le h2 ?_⟩
    have hp : (0 : Int) ≤ (10 : Int) ^ l.length := Int.pow_nonneg (by decide)
    have := Int.mul_le_mul_of_nonneg_right (show a * 10 + ((c.toNat : Int) - 48) + 1 ≤ (a + 1) * 10 by omega) hp
    rw [List.length_cons, Int.pow_succ]
    rw [Int.mul_assoc] at this
    rw [Int.mul_comm ((10 : Int) ^ l.length) 10]
    exact this
theorem val_bound (l : List UInt8) (h : l.all dig = true) : 0 ≤ val l ∧ val l < (10 : Int) ^ l.length := by
  have := val_fold l 0 (by decide) h
  simpa [val] using this
theorem val_small (l : List UInt8) (h : l.all dig = true) (hl : l.length ≤ 14) : 0 ≤ val l ∧ val l < 100000000000000 := by
  obtain ⟨h1, h2⟩ := val_bound l h
  refine ⟨h1, Int.lt_of_lt_of_le h2 ?_⟩
  have h := Nat.pow_le_pow_right (n := 10) (by decide) hl
  have e : ((10 ^ l.length : Nat) : Int) = (10 : Int) ^ l.length := by rw [Int.natCast_pow]; rfl
  rw [← e]; omega
end LX
namespace LW
open LX
theorem val_step {x : ByteArray} {k : Nat} (h : k < x.size) : val ((bts x).take (k + 1)) = val ((bts x).take k) * 10 + (((x[k]).toNat : Int) - 48) := by
  have hk : k < (bts x).length := by rw [bts_len]; exact h
  rw [List.take_succ_eq_append_getElem hk, val_snoc, at_bts x k h hk]; rfl
theorem val_take {x : ByteArray} {k : Nat} (hd : (bts x).all dig = true) (hn : x.size ≤ 14) : 0 ≤ val ((bts x).take k) ∧ val ((bts x).take k) < 100000000000000 := by
  refine val_small _ ?_ ?_
  · rw [List.all_eq_true] at hd ⊢
    exact fun c hc => hd c (List.mem_of_mem_take hc)
  · rw [List.length_take, bts_len]; omega
theorem dig_at {x : ByteArray} {k : Nat} (hd : (bts x).all dig = true) (h : k < x.size) : dig x[k] = true := by
  rw [List.all_eq_true] at hd
  exact hd _ (List.mem_of_getElem? (data_at x k h))
theorem number_any (s : ByteArray) (hp : 0 < s.size) (hs : s.size ≤ 5000) (w : World) : Calls Tryd.prog 43 #[.string s] w fun e w' => e = .returned (.bool (LX.number (bts s))) ∧ w = w' := by
  have hd := data_at s 0 hp
  cases hb : bts s with
  | nil => rw [hb] at hd; simp at hd
  | cons c r =>
    rw [hb] at hd
    have hc0 : c = s[0] := by simpa using hd
    have hln : r.length + 1 = s.size := by rw [← bts_len, hb]; rfl
    by_cases hc : c = 45
    · have h1 : (((s[0]'hp).toNat : Int) == 45) = true := by rw [← hc0, hc]; rfl
      have hx : s.extract 1 s.size = str r := by
        rw [← hln, show r.length + 1 = 1 + r.length from by omega, cut_str, hb]; simp
      have := number_neg s (str r) hp hs h1 hx r.length (str_size r) (by omega) w
      rw [bts_str] at this
      have e2 : LX.number (c :: r) = (r.all dig && decide (0 < r.length)) := by subst hc; rfl
      rw [e2]; exact this
    · have h1 : (((s[0]'hp).toNat : Int) == 45) = false := by
        rw [← hc0, beq_eq_false_iff_ne]
        intro h
        exact hc (UInt8.toNat_inj.1 (by rw [show (45 : UInt8).toNat = 45 from rfl]; omega))
      have := number_pos s s.size rfl hp hs h1 w
      rw [hb] at this
      have e2 : LX.number (c :: r) = ((c :: r).all dig && decide (0 < (c :: r).length)) := by unfold LX.number unsign; simp only [if_neg hc]
      rw [e2, show (c :: r).length = s.size from hln]
      exact this
set_option maxHeartbeats 1000000 in
theorem value_pos (x : ByteArray) (hp : 0 < x.size) (hn : x.size ≤ 14) (hd : (bts x).all dig = true) (w : World) : Calls Tryd.prog 44 #[.string x] w fun e w' => e = .returned (.int .i64 (LX.val (bts x))) ∧ w = w' := by
  have h1 : (((x[0]'hp).toNat : Int) == 45) = false := by
    have := dig_yes (dig_at hd hp)
    rw [beq_eq_false_iff_ne]; omega
  have HD := Lib.hid hd
  obtain ⟨n, hls⟩ : ∃ n, x.size = n := ⟨_, rfl⟩
  have hres : LX.val (bts x) = LX.val ((bts x).take n) := by rw [List.take_of_length_le]; rw [bts_len, hls]; exact Nat.le_refl _
  rw [hres]
  have hv0 : LX.val ((bts x).take 0) = 0 := by rw [List.take_zero]; rfl
  have HV0 := Lib.hid hv0
  clear hd hres hv0
  go_enter Tryd.func44, Tryd.ntmps44
  go_wp2
  go_loop [3, 4] (fun a i => ∃ k : Nat, k ≤ n ∧ a = .int .i64 (LX.val ((bts x).take k)) ∧ i = .int .i64 (k : Int)) (fun a i => n - (intOf i).toNat)
  case atStart => exact ⟨0, by omega, by rw [HV0.out], rfl⟩
  case round =>
    obtain ⟨k, hk, rfl, rfl⟩ := hrel
    by_cases hlt : k < n
    · have hks : k < x.size := by omega
      have HS := Lib.hid (val_step hks)
      obtain ⟨b1, b2⟩ := val_take (k := k) HD.out (by omega)
      obtain ⟨g1, g2⟩ := dig_yes (dig_at HD.out hks)
      generalize LX.val ((bts x).take k) = v at *
      obtain ⟨q, hq⟩ : ∃ q : Nat, (x[k]).toNat = q := ⟨_, rfl⟩
      rw [hq] at g1 g2
      have HQ := Lib.hid hq
      go_wp2
      go_round
      case rel => exact ⟨k + 1, by omega, by rw [HS.out, HQ.out] <;> go_num, by go_num⟩
      case measure => simp [intOf]; omega
    · obtain rfl : k = n := by omega
      go_wp2
      go_ret
      exact ⟨rfl, rfl⟩
set_option maxHeartbeats 1000000 in
theorem value_any (s : ByteArray) (hp : 0 < s.size) (hn : s.size ≤ 14) (hd : LX.number (bts s) = true) (w : World) : Calls Tryd.prog 44 #[.string s] w fun e w' => e = .returned (.int .i64 (LX.value (bts s))) ∧ w = w' := by
  have hd0 := data_at s 0 hp
  cases hb : bts s with
  | nil => rw [hb] at hd0; simp at hd0
  | cons c r =>
    rw [hb] at hd0 hd
    have hc0 : c = s[0] := by simpa using hd0
    have hln : r.length + 1 = s.size := by rw [← bts_len, hb]; rfl
    by_cases hc : c = 45
    · have h1 : (((s[0]'hp).toNat : Int) == 45) = true := by rw [← hc0, hc]; rfl
      have hx : s.extract 1 s.size = str r := by
        rw [← hln, show r.length + 1 = 1 + r.length from by omega, cut_str, hb]; simp
      have e2 : LX.number (c :: r) = (r.all dig && decide (0 < r.length)) := by subst hc; rfl
      rw [e2, Bool.and_eq_true] at hd
      have e3 : LX.value (c :: r) = - LX.val r := by subst hc; rfl
      rw [e3]
      have hr0 : 0 < r.length := by simpa using hd.2
      have hv := value_pos (str r) (by rw [str_size]; exact hr0) (by rw [str_size]; omega) (by rw [bts_str]; exact hd.1) w
      rw [bts_str] at hv
      obtain ⟨b1, b2⟩ := val_small r hd.1 (by omega)
      have HX := Lib.hid hx
      have HV := Lib.hid hv
      have hp1 : 1 ≤ s.size := hp
      generalize LX.val r = v at *
      clear hx hv hd e2 e3 hb hc0 hc hd0 hln hr0
      go_enter Tryd.func44, Tryd.ntmps44
      go_wp2_with (rw [HX.out]; go_at_call 44; refine HV.out.mono ?_; rintro e w' ⟨rfl, rfl⟩)
      go_ret
      exact ⟨rfl, rfl⟩
    · have e2 : LX.number (c :: r) = ((c :: r).all dig && decide (0 < (c :: r).length)) := by unfold LX.number unsign; simp only [if_neg hc]
      rw [e2, Bool.and_eq_true] at hd
      have e3 : LX.value (c :: r) = LX.val (c :: r) := by unfold LX.value; simp only [if_neg hc]
      rw [e3, ← hb]
      exact value_pos s hp hn (by rw [hb]; exact hd.1) w
end LW
end Go.Proofs.YtkhcaejijlaohaaDoor
