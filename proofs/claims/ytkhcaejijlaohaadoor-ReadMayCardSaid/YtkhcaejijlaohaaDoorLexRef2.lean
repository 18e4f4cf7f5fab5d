/-
  Contracts of the document's own parts of layer 5: mark, word, number, value. Conditions: a text is no longer than 5000 bytes; what is a number has at most 14 letters.
-/
import Derived.Test.YtkhcaejijlaohaaDoorLexRef1
namespace Go.Proofs.YtkhcaejijlaohaaDoor
open Go.RowKit
namespace LX
theorem tw_yes {p : UInt8 → Bool} {l : List UInt8} {j : Nat} (h : j < (l.takeWhile p).length) : ∃ x, l[j]? = some x ∧ p x = true := by
  induction l generalizing j with
  | nil => simp at h
  | cons c l ih =>
    rw [List.takeWhile_cons] at h
    split at h
    · rename_i hc
      cases j with
      | zero => exact ⟨c, rfl, hc⟩
      | succ j => simpa using ih (by simpa using h)
    · simp at h
theorem tw_no {p : UInt8 → Bool} {l : List UInt8} (h : (l.takeWhile p).length < l.length) : ∃ x, l[(l.takeWhile p).length]? = some x ∧ p x = false := by
  induction l with
  | nil => simp at h
  | cons c l ih =>
    by_cases hc : p c = true
    · simp only [List.takeWhile_cons, hc, if_true, List.length_cons] at h ⊢
      simpa using ih (by omega)
    · have hc' : p c = false := by simpa using hc
      simp only [List.takeWhile_cons, hc', Bool.false_eq_true, if_false]
      exact ⟨c, rfl, hc'⟩
theorem tw_take (p : UInt8 → Bool) (l : List UInt8) : l.takeWhile p = l.take (l.takeWhile p).length := by
  induction l with
  | nil => rfl
  | cons c l ih =>
    by_cases hc : p c = true
    · simp only [List.takeWhile_cons, hc, if_true, List.length_cons, List.take_succ_cons]
      rw [← ih]
    · simp [hc]
end LX
namespace LW
open LX
theorem ret_str {a b : ByteArray} (h : a = b) : Ending.returned (.string a) = .returned (.string b) := by rw [h]
theorem mark_any (c : UInt8) (w : World) : Calls Tryd.prog 32 #[.int .u8 (c.toNat : Int)] w fun e w' => e = .returned (.int .u8 (LX.mark c)) ∧ w = w' := by
  have key : (c.toNat = 40 ∧ LX.mark c = 1) ∨ (c.toNat = 41 ∧ LX.mark c = 2) ∨ (c.toNat = 39 ∧ LX.mark c = 3) ∨ (c.toNat ≠ 40 ∧ c.toNat ≠ 41 ∧ c.toNat ≠ 39 ∧ LX.mark c = 0) := by
    unfold LX.mark
    by_cases h1 : c = 40
    · subst h1; exact .inl ⟨rfl, rfl⟩
    · by_cases h2 : c = 41
      · subst h2; exact .inr (.inl ⟨rfl, rfl⟩)
      · by_cases h3 : c = 39
        · subst h3; exact .inr (.inr (.inl ⟨rfl, rfl⟩))
        · refine .inr (.inr (.inr ⟨fun e => h1 (UInt8.toNat_inj.1 e), fun e => h2 (UInt8.toNat_inj.1 e), fun e => h3 (UInt8.toNat_inj.1 e), ?_⟩))
          rw [if_neg h1, if_neg h2, if_neg h3]
  generalize LX.mark c = k at *
  generalize c.toNat = n at *
  rcases key with ⟨rfl, rfl⟩ | ⟨rfl, rfl⟩ | ⟨rfl, rfl⟩ | ⟨h1, h2, h3, rfl⟩
  · go_enter Tryd.func32, Tryd.ntmps32
    go_wp2
    go_ret
    exact ⟨rfl, rfl⟩
  · go_enter Tryd.func32, Tryd.ntmps32
    go_wp2
    go_ret
    exact ⟨rfl, rfl⟩
  · go_enter Tryd.func32, Tryd.ntmps32
    go_wp2
    go_ret
    exact ⟨rfl, rfl⟩
  · have d1 : ((n : Int) == 40) = false := by rw [beq_eq_false_iff_ne]; omega
    have d2 : ((n : Int) == 41) = false := by rw [beq_eq_false_iff_ne]; omega
    have d3 : ((n : Int) == 39) = false := by rw [beq_eq_false_iff_ne]; omega
    clear h1 h2 h3
    go_enter Tryd.func32, Tryd.ntmps32
    go_wp2
    go_ret
    exact ⟨rfl, rfl⟩
theorem drop_at (s : ByteArray) (a j : Nat) (h : a + j < s.size) : ((bts s).drop a)[j]? = some s[a + j] := by
  rw [List.getElem?_drop, data_at s (a + j) h]
theorem cut_str (s : ByteArray) (a k : Nat) : s.extract a (a + k) = str (((bts s).drop a).take k) := by
  apply ByteArray.ext
  apply Array.toList_inj.1
  rw [Lib.extract_data]
  unfold str bts
  simp
set_option maxHeartbeats 1000000 in
theorem word_any (s : ByteArray) (a : Nat) (ha : a ≤ s.size) (hm : s.size ≤ 5000) (w : World) : Calls Tryd.prog 33 #[.string s, .int .i64 a] w fun e w' => e = .returned (.string (str (word ((bts s).drop a)))) ∧ w = w' := by
  obtain ⟨n, hn⟩ : ∃ n, (word ((bts s).drop a)).length = n := ⟨_, rfl⟩
  have hle : a + n ≤ s.size := by
    have := word_le ((bts s).drop a)
    rw [List.length_drop, bts_len] at this
    omega
  have hres : str (word ((bts s).drop a)) = s.extract a (a + n) := by
    rw [cut_str s a n]
    unfold word at hn ⊢
    rw [tw_take, hn]
  rw [hres]
  have hyes : ∀ j (h : a + j < s.size), j < n → let_ s[a + j] = true := by
    intro j h hj
    obtain ⟨x, h1, h2⟩ := tw_yes (p := let_) (l := (bts s).drop a) (j := j) (by unfold word at hn; omega)
    rw [drop_at s a j h] at h1
    cases h1; exact h2
  have hno : ∀ (h : a + n < s.size), let_ s[a + n] = false := by
    intro h
    unfold word at hn
    obtain ⟨x, h1, h2⟩ := tw_no (p := let_) (l := (bts s).drop a) (by rw [List.length_drop, bts_len]; omega)
    rw [hn, drop_at s a n h] at h1
    cases h1; exact h2
  have HY := Lib.hid hyes
  have HN := Lib.hid hno
  clear hres hyes hno hn
  go_enter Tryd.func33, Tryd.ntmps33
  go_wp2
  go_loop [5] (fun i => ∃ j : Nat, j ≤ n ∧ i = .int .i64 ((a + j : Nat) : Int)) (fun i => s.size - (intOf i).toNat)
  case atStart => exact ⟨0, by omega, rfl⟩
  case round =>
    obtain ⟨j, hj, rfl⟩ := hrel
    obtain ⟨i, hi⟩ : ∃ i, i = a + j := ⟨_, rfl⟩
    rw [← hi]
    by_cases hlt : i < s.size
    · by_cases hjn : j < n
      · have hl := HY.out j (by omega) hjn
        have hL : let_ s[i] = true := by
          have : s[i] = s[a + j]'(by omega) := by congr 1
          rw [this]; exact hl
        have HL := Lib.hid (letter_any s[i] w)
        rw [hL] at HL
        have HI := Lib.hid hi
        clear hl hL hi
        go_wp2_with (go_at_call 34; refine HL.out.mono ?_; rintro e w' ⟨rfl, rfl⟩)
        go_round
        case rel => exact ⟨j + 1, by omega, by have := HI.out; go_num⟩
        case measure => simp [intOf]; omega
      · obtain rfl : j = n := by omega
        have hl := HN.out (by omega)
        have hL : let_ s[i] = false := by
          have : s[i] = s[a + j]'(by omega) := by congr 1
          rw [this]; exact hl
        have HL := Lib.hid (letter_any s[i] w)
        rw [hL] at HL
        have hai : a ≤ i := by omega
        have HI := Lib.hid hi
        clear hl hL hi
        go_wp2_with (go_at_call 34; refine HL.out.mono ?_; rintro e w' ⟨rfl, rfl⟩)
        go_ret
        exact ⟨ret_str (by rw [HI.out]), rfl⟩
    · have hai : a ≤ i := by omega
      have his : i = s.size := by omega
      have HI := Lib.hid (show i = a + n by omega)
      have his2 : ¬ (i < s.size) := hlt
      have his3 : i ≤ s.size := by omega
      clear hi his hlt hj
      go_wp2
      go_ret
      exact ⟨ret_str (by rw [HI.out]), rfl⟩
def Digs (s : ByteArray) (k : Nat) : Prop := ∀ j (h : j < s.size), j < k → dig s[j] = true
theorem at_bts (s : ByteArray) (j : Nat) (h : j < s.size) (h2 : j < (bts s).length) : (bts s)[j] = s[j] := by
  have := data_at s j h
  rw [List.getElem?_eq_getElem h2] at this
  exact Option.some.inj this
theorem digs_all {s : ByteArray} (h : Digs s s.size) : (bts s).all dig = true := by
  rw [List.all_eq_true]
  intro x hx
  obtain ⟨j, hj, rfl⟩ := List.mem_iff_getElem.1 hx
  have hj2 : j < s.size := by rw [← bts_len]; exact hj
  rw [at_bts s j hj2 hj]
  exact h j hj2 hj2
theorem digs_no {s : ByteArray} {j : Nat} (hj : j < s.size) (h : dig s[j] = false) : (bts s).all dig = false := by
  rw [List.all_eq_false]
  exact ⟨_, List.mem_of_getElem? (data_at s j hj), by simp [h]⟩
theorem digs_step {s : ByteArray} {k : Nat} (h : Digs s k) (hk : k < s.size) (hd : dig s[k] = true) : Digs s (k + 1) := by
  intro j hj hjk
  by_cases e : j = k
  · subst e; exact hd
  · exact h j hj (by omega)
theorem ret_bool {a b : Bool} (h : a = b) : Ending.returned (.bool a) = .returned (.bool b) := by rw [h]
theorem dig_yes {c : UInt8} (h : dig c = true) : 48 ≤ c.toNat ∧ c.toNat ≤ 57 := by simpa [dig] using h
theorem dig_no {c : UInt8} (h : dig c = false) : c.toNat < 48 ∨ 57 < c.toNat := by
  simp [dig] at h; omega
set_option maxHeartbeats 2000000 in
theorem number_neg (s x : ByteArray) (hp : 0 < s.size) (hs : s.size ≤ 5000) (h1 : (((s[0]'hp).toNat : Int) == 45) = true) (hx : s.extract 1 s.size = x) (n : Nat) (hls : x.size = n) (hn : n ≤ 5000) (w : World) : Calls Tryd.prog 43 #[.string s] w fun e w' => e = .returned (.bool ((bts x).all dig && decide (0 < n))) ∧ w = w' := by
  have HX := Lib.hid hx
  have hp1 : 1 ≤ s.size := hp
  clear hx
  go_enter Tryd.func43, Tryd.ntmps43
  go_wp2
  rw [HX.out]
  go_loop [3] (fun i => ∃ k : Nat, k ≤ n ∧ i = .int .i64 (k : Int) ∧ Hid (Digs x k)) (fun i => n - (intOf i).toNat)
  case atStart => exact ⟨0, by omega, rfl, Lib.hid (fun j h hj => absurd hj (by omega))⟩
  case round =>
    obtain ⟨k, hk, rfl, hd⟩ := hrel
    by_cases hlt : k < n
    · have hks : k < x.size := by omega
      by_cases hg : dig x[k] = true
      · obtain ⟨g1, g2⟩ := dig_yes hg
        have HD := Lib.hid (digs_step hd.out hks hg)
        have d1 : decide (((x[k]).toNat : Int) < 48) = false := by simp; omega
        have d2 : decide ((57 : Int) < ((x[k]).toNat : Int)) = false := by simp; omega
        clear g1 g2 hg
        go_wp2
        go_round
        case rel => exact ⟨k + 1, by omega, by go_num, HD⟩
        case measure => simp [intOf]; omega
      · have hg' : dig x[k] = false := by simpa using hg
        have HNo := Lib.hid (digs_no hks hg')
        have h4 := dig_no hg'
        clear hg hg'
        by_cases d1 : decide (((x[k]).toNat : Int) < 48) = true
        · clear h4
          go_wp2
          go_ret
          exact ⟨ret_bool (by simp [HNo.out]), rfl⟩
        · have d1 : decide (((x[k]).toNat : Int) < 48) = false := by simpa using d1
          have d2 : decide ((57 : Int) < ((x[k]).toNat : Int)) = true := by simp at d1 ⊢; omega
          clear h4
          go_wp2
          go_ret
          exact ⟨ret_bool (by simp [HNo.out]), rfl⟩
    · obtain rfl : k = n := by omega
      have HA := Lib.hid (digs_all (s := x) (by rw [hls]; exact hd.out))
      go_wp2
      go_ret
      exact ⟨ret_bool (by simp [HA.out]), rfl⟩
set_option maxHeartbeats 2000000 in
theorem number_pos (x : ByteArray) (n : Nat) (hls : x.size = n) (hp : 0 < n) (hn : n ≤ 5000) (h1 : (((x[0]'(by omega)).toNat : Int) == 45) = false) (w : World) : Calls Tryd.prog 43 #[.string x] w fun e w' => e = .returned (.bool ((bts x).all dig && decide (0 < n))) ∧ w = w' := by
  have hp1 : 0 < x.size := by omega
  go_enter Tryd.func43, Tryd.ntmps43
  go_wp2
  go_loop [3] (fun i => ∃ k : Nat, k ≤ n ∧ i = .int .i64 (k : Int) ∧ Hid (Digs x k)) (fun i => n - (intOf i).toNat)
  case atStart => exact ⟨0, by omega, rfl, Lib.hid (fun j h hj => absurd hj (by omega))⟩
  case round =>
    obtain ⟨k, hk, rfl, hd⟩ := hrel
    by_cases hlt : k < n
    · have hks : k < x.size := by omega
      by_cases hg : dig x[k] = true
      · obtain ⟨g1, g2⟩ := dig_yes hg
        have HD := Lib.hid (digs_step hd.out hks hg)
        have d1 : decide (((x[k]).toNat : Int) < 48) = false := by simp; omega
        have d2 : decide ((57 : Int) < ((x[k]).toNat : Int)) = false := by simp; omega
        clear g1 g2 hg
        go_wp2
        go_round
        case rel => exact ⟨k + 1, by omega, by go_num, HD⟩
        case measure => simp [intOf]; omega
      · have hg' : dig x[k] = false := by simpa using hg
        have HNo := Lib.hid (digs_no hks hg')
        have h4 := dig_no hg'
        clear hg hg'
        by_cases d1 : decide (((x[k]).toNat : Int) < 48) = true
        · clear h4
          go_wp2
          go_ret
          exact ⟨ret_bool (by simp [HNo.out]), rfl⟩
        · have d1 : decide (((x[k]).toNat : Int) < 48) = false := by simpa using d1
          have d2 : decide ((57 : Int) < ((x[k]).toNat : Int)) = true := by simp at d1 ⊢; omega
          clear h4
          go_wp2
          go_ret
          exact ⟨ret_bool (by simp [HNo.out]), rfl⟩
    · obtain rfl : k = n := by omega
      have HA := Lib.hid (digs_all (s := x) (by rw [hls]; exact hd.out))
      go_wp2
      go_ret
      exact ⟨ret_bool (by simp [HA.out]), rfl⟩
end LW
end Go.Proofs.YtkhcaejijlaohaaDoor
