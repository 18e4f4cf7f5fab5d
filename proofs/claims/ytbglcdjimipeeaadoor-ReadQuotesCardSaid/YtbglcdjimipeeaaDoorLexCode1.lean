/-
  Contracts of the code's own parts of layer 5: isDigit, isNameChar, with strings.ContainsRune and strings.IndexRune at the marks. Condition: a rune is one that a range over a text gives.
-/
import Derived.Test.YtbglcdjimipeeaaDoorLexRef2
import Derived.Lib.Bytealg
import Derived.Lib.IndexAny
import Derived.Lib.IndexLaws
import Derived.Laws.Runes
import Derived.Laws.RangeAny
import Derived.Lib.OthersKept
import Derived.Lib.Walk
import Derived.Deep.QuietTactic
import Derived.BigQuiet
import Derived.WalkMore
import Derived.IntWalk
namespace Go.Proofs.YtbglcdjimipeeaaDoor
open Go.RowKit
namespace LW
open LX
theorem isDigit_any (n : Int) (w : World) : Calls Tryd.prog 26 #[.int .i32 n] w fun e w' => e = .returned (.bool (decide (48 ≤ n) && decide (n ≤ 57))) ∧ w = w' := by
  by_cases d1 : 48 ≤ n
  · by_cases d2 : n ≤ 57
    · have e1 : decide (48 ≤ n) = true := by simp [d1]
      have e2 : decide (n ≤ 57) = true := by simp [d2]
      rw [e1, e2]
      go_enter Tryd.func26, Tryd.ntmps26
      go_wp2
      go_ret
      exact ⟨rfl, rfl⟩
    · have e1 : decide (48 ≤ n) = true := by simp [d1]
      have e2 : decide (n ≤ 57) = false := by simp; omega
      rw [e1, e2]
      go_enter Tryd.func26, Tryd.ntmps26
      go_wp2
      go_ret
      exact ⟨rfl, rfl⟩
  · have e1 : decide (48 ≤ n) = false := by simp; omega
    rw [e1]
    go_enter Tryd.func26, Tryd.ntmps26
    go_wp2
    go_ret
    exact ⟨rfl, rfl⟩
set_option maxHeartbeats 1000000 in
set_option maxRecDepth 100000 in
theorem lite_byte (s : ByteArray) (c : Int) (w : World) : Calls Tryd.prog 45 #[.string s, .int .u8 c] w fun e w' => e = .returned (.int .i64 (Lib.indexByte (bts s) c.toNat.toUInt8)) ∧ w = w' := by
  go_enter Tryd.func45, Tryd.ntmps45
  go_wp2
  rw [run_callFunc_extern Tryd.func49 (by kernel_rfl) (by kernel_rfl) (by kernel_rfl) (e := Extern.BytealgIndexByte.indexByte) (by kernel_rfl), Lib.run_indexByteString]
  simp only [Result.andThen]
  rw [Oper.upon_value]
  go_wp2
  go_ret
  exact ⟨rfl, rfl⟩
set_option maxHeartbeats 1000000 in
theorem str_byte (s : ByteArray) (c : Int) (w : World) : Calls Tryd.prog 35 #[.string s, .int .u8 c] w fun e w' => e = .returned (.int .i64 (Lib.indexByte (bts s) c.toNat.toUInt8)) ∧ w = w' := by
  go_enter Tryd.func35, Tryd.ntmps35
  go_wp2_with (go_at_call 45; refine (lite_byte _ _ _).mono ?_; rintro e w' ⟨rfl, rfl⟩)
  go_ret
  exact ⟨rfl, rfl⟩
set_option maxHeartbeats 1000000 in
set_option maxRecDepth 100000 in
theorem rune_low (s : ByteArray) (n : Int) (h0 : 0 ≤ n) (h1 : n < 128) (w : World) : Calls Tryd.prog 31 #[.string s, .int .i32 n] w fun e w' => e = .returned (.int .i64 (Lib.indexByte (bts s) n.toNat.toUInt8)) ∧ w = w' := by
  go_enter Tryd.func31, Tryd.ntmps31
  go_wp2_with (go_at_call 35; refine (str_byte _ _ _).mono ?_; rintro e w' ⟨rfl, rfl⟩)
  go_ret
  exact ⟨rfl, rfl⟩
set_option maxHeartbeats 1000000 in
theorem has_low (s : ByteArray) (n : Int) (h0 : 0 ≤ n) (h1 : n < 128) (w : World) : Calls Tryd.prog 27 #[.string s, .int .i32 n] w fun e w' => e = .returned (.bool (decide (0 ≤ Lib.indexByte (bts s) n.toNat.toUInt8))) ∧ w = w' := by
  go_enter Tryd.func27, Tryd.ntmps27
  go_wp2_with (go_at_call 31; refine (rune_low _ _ h0 h1 _).mono ?_; rintro e w' ⟨rfl, rfl⟩)
  go_ret
  exact ⟨rfl, rfl⟩
theorem iter_far (w : World) (s : ByteArray) (p : Nat) : MM.Far [] w (w.iter s p) := (MM.Far.refl [] w).alloc _
set_option maxHeartbeats 2000000 in
set_option maxRecDepth 100000 in
theorem rune_bad (s : ByteArray) (hs : s.size ≤ 5000) (ha : ∀ i (h : i < s.size), (s[i]).toNat < 128) (w : World) : Calls Tryd.prog 31 #[.string s, .int .i32 65533] w fun e w' => e = .returned (.int .i64 (-1)) ∧ MM.Far [] w w' := by
  have HA := Lib.hid ha
  clear ha
  go_enter Tryd.func31, Tryd.ntmps31
  go_wp2
  go_loopw [] (fun wr => ∃ pos : Nat, pos ≤ s.size ∧ wr = w.iter s pos) (fun wr => s.size - wr.iterPos w.heap.size)
  case atStart => exact ⟨0, by omega, rfl⟩
  case round =>
    obtain ⟨pos, hp, rfl⟩ := hrel
    by_cases hlt : pos < s.size
    · have h1 := HA.out pos hlt
      have hnx : ∀ ty, (Instr.next (.pointer (some ⟨w.heap.size, 0, none⟩)) true ty).run Tryd.prog (w.iter s pos) = _ := fun ty => run_next_ascii w s pos ty hlt h1
      have d1 : (((s[pos]).toNat : Int) == 65533) = false := by rw [beq_eq_false_iff_ne]; omega
      go_wp2
      go_roundw
      case rel => exact ⟨pos + 1, by omega, rfl⟩
      case measure => simp; omega
    · have hnx : ∀ ty, (Instr.next (.pointer (some ⟨w.heap.size, 0, none⟩)) true ty).run Tryd.prog (w.iter s pos) = _ := fun ty => run_next_end w s pos ty hlt
      go_wp2
      go_ret
      exact ⟨rfl, iter_far _ _ _⟩
theorem vr_yes {r : Int} (h : (0 ≤ r ∧ r < 55296) ∨ (57343 < r ∧ r ≤ 1114111)) : validRune r = true := by unfold validRune; simpa using h
theorem vr_no {r : Int} (h : ¬ ((0 ≤ r ∧ r < 55296) ∨ (57343 < r ∧ r ≤ 1114111))) : validRune r = false := by unfold validRune; exact decide_eq_false h
theorem valid_any (r : Int) (w : World) : Calls Tryd.prog 36 #[.int .i32 r] w fun e w' => e = .returned (.bool (validRune r)) ∧ w = w' := by
  go_enter Tryd.func36, Tryd.ntmps36
  go_wp2
  all_goals (go_ret; refine ⟨ret_bool ?_, rfl⟩; first | exact (vr_yes (by omega)).symm | exact (vr_no (by omega)).symm)
set_option maxHeartbeats 2000000 in
set_option maxRecDepth 100000 in
theorem rune_none (s : ByteArray) (r : Int) (h1 : 128 ≤ r) (h2 : r ≠ 65533) (h3 : validRune r = false) (w : World) : Calls Tryd.prog 31 #[.string s, .int .i32 r] w fun e w' => e = .returned (.int .i64 (-1)) ∧ w = w' := by
  have d1 : decide (r < 128) = false := by simp; omega
  have d2 : (r == 65533) = false := by rw [beq_eq_false_iff_ne]; exact h2
  have HV := Lib.hid (valid_any r)
  rw [h3] at HV
  clear h2 h3
  go_enter Tryd.func31, Tryd.ntmps31
  go_wp2_with (go_at_call 36; refine (HV.out _).mono ?_; rintro e w' ⟨rfl, rfl⟩)
  go_ret
  exact ⟨rfl, rfl⟩
theorem quiet_d {P : Program} {f : FuncId} {args : Array Value} {w : World} {n : Nat} {v : Value} (h : Calls P f args (w.drewN n) fun e w' => e = .returned v ∧ w.drewN n = w') : Calls P f args (w.drewN n) fun e w'' => e = .returned v ∧ ∃ m, w'' = w.drewN m :=
  h.mono fun _ _ ⟨he, hm⟩ => ⟨he, n, hm.symm⟩
theorem none_from (s : ByteArray) (a : Nat) (c : UInt8) (ha : ∀ i (h : i < s.size), (s[i]).toNat < 128) (hc : 128 ≤ c.toNat) : Lib.indexByte (bts (s.extract a s.size)) c = -1 := by
  unfold bts
  rw [← Lib.firstIdx_eq]
  refine firstIdx_ascii s a s.size c ?_ hc
  intro b hb
  obtain ⟨i, hi, rfl⟩ := List.mem_iff_getElem.1 hb
  have h2 : i < s.size := by rw [← bts_len]; exact hi
  have := at_bts s i h2 hi
  unfold bts at this
  rw [this]; exact ha i h2
set_option maxHeartbeats 4000000 in
set_option maxRecDepth 100000 in
theorem rune_far (s : ByteArray) (hs0 : 4 ≤ s.size) (hs : s.size ≤ 5000) (ha : ∀ i (h : i < s.size), (s[i]).toNat < 128) (r : Int) (h1 : 128 ≤ r) (h2 : r ≠ 65533) (h3 : validRune r = true) (w : World) : Calls Tryd.prog 31 #[.string s, .int .i32 r] w fun e w' => e = .returned (.int .i64 (-1)) ∧ MM.Far [] w w' := by
  have d1 : decide (r < 128) = false := by simp; omega
  have d2 : (r == 65533) = false := by rw [beq_eq_false_iff_ne]; exact h2
  have HV := Lib.hid (valid_any r)
  rw [h3] at HV
  obtain ⟨e1, e2, e3⟩ := encode_facts r (by rw [validRune_eq]; exact h3) h1
  generalize hz : Utf8.encode r = z at e1 e2 e3
  have HZ := Lib.hid hz
  obtain ⟨m, hm⟩ : ∃ m, z.size = m + 1 := ⟨z.size - 1, by omega⟩
  have hzl : m < z.size := by omega
  have e4 : 128 ≤ (z[m]'hzl).toNat := by
    have h := e3 (by omega)
    have : z[z.size - 1]'(by omega) = z[m]'hzl := by congr 1; omega
    rw [this] at h; exact h
  have hms : m < s.size := by omega
  have e5 := ha m hms
  have HI := Lib.hid (none_from s (m + 1) (z[m]'hzl) ha e4)
  have HB : Hid (∀ w, Calls Tryd.prog 35 #[.string (s.extract (m + 1) s.size), .int .u8 ((z[m]'hzl).toNat : Int)] w fun e w' => e = .returned (.int .i64 (-1)) ∧ w = w') := Lib.hid (by
    intro w
    have := str_byte (s.extract (m + 1) s.size) ((z[m]'hzl).toNat : Int) w
    rw [show ((z[m]'hzl).toNat : Int).toNat.toUInt8 = z[m]'hzl by simp] at this
    rw [HI.out] at this
    exact this)
  have d5 : (((s[m]'hms).toNat : Int) == ((z[m]'hzl).toNat : Int)) = false := by rw [beq_eq_false_iff_ne]; omega
  have d6 : (((s[m]'hms).toNat : Int) != ((z[m]'hzl).toNat : Int)) = true := by rw [bne_iff_ne]; omega
  have hcv : ∀ W, (convert 21 9 (.int .i32 r)).run Tryd.prog W = .ok (.string z) W := fun W => by
    rw [← HZ.out]
    exact run_convert_int_string W 21 9 .i32 r (by rw [Tryd.underlying21]; rfl) Tryd.underlying9
  clear h2 h3 ha hz e3 hs0
  go_enter Tryd.func31, Tryd.ntmps31
  go_wp2_with (go_at_call 36; refine (HV.out _).mono ?_; rintro e w' ⟨rfl, rfl⟩)
  go_wp2
  go_step3
  go_wp2
  go_loop [9] (fun i => i = .int .i64 (m : Int)) (fun i => 0)
  case atStart => rfl
  case round =>
    obtain rfl := hrel
    clear hm
    go_wp2
    go_step3
    go_wp2
    go_quiet (fail)
    have HF := Lib.hid ((MM.Far.refl [] w).drewN nq)
    generalize w.drewN nq = w1 at HF ⊢
    go_wp2
    have q0 : m + 1 ≤ s.size := by omega
    have q1 : IntKind.i64.wrap ((m : Int) + 1) = (m : Int) + 1 := IntWalk.i64_in _ (by omega)
    have q2 : (0 : Int) ≤ (m : Int) + 1 := by omega
    have q3 : ((m : Int) + 1).toNat = m + 1 := by omega
    have hsl : ∀ W, (Instr.slice 9 (.string s) (some (.int .i64 ((m : Int) + 1))) none none).run Tryd.prog W = .ok (.string (s.extract (m + 1) s.size)) W := fun W => by
      rw [run_slice_string_from_if W 9 s .i64 _ Tryd.underlying9, if_pos ⟨by omega, by omega⟩, q3]
    go_quiet ((go_at_call 35; exact quiet_d (HB.out _)))
    go_wp2
    rw [Exit.noGoto_ret]
    simp only [Exit.inBlock]
    show Exit.inBlock 0 (Exit.inBlock 1 (Exit.then _ (Exit.noGoto (Exit.inBlock 0 _)))) Exit.ret _ _
    simp only [Exit.inBlock, Exit.then]
    rw [Exit.noGoto_ret]
    simp only [Exit.inBlock]
    go_ret
    exact ⟨rfl, HF.out.drewN _⟩
theorem rune_high (s : ByteArray) (hs0 : 4 ≤ s.size) (hs : s.size ≤ 5000) (ha : ∀ i (h : i < s.size), (s[i]).toNat < 128) (r : Int) (h1 : 128 ≤ r) (w : World) : Calls Tryd.prog 31 #[.string s, .int .i32 r] w fun e w' => e = .returned (.int .i64 (-1)) ∧ MM.Far [] w w' := by
  by_cases h2 : r = 65533
  · subst h2; exact rune_bad s hs ha w
  · by_cases h3 : validRune r = true
    · exact rune_far s hs0 hs ha r h1 h2 h3 w
    · exact (rune_none s r h1 h2 (by simpa using h3) w).mono fun _ _ ⟨h, k⟩ => ⟨h, k ▸ MM.Far.refl _ _⟩
set_option maxHeartbeats 1000000 in
theorem has_high (s : ByteArray) (hs0 : 4 ≤ s.size) (hs : s.size ≤ 5000) (ha : ∀ i (h : i < s.size), (s[i]).toNat < 128) (r : Int) (h1 : 128 ≤ r) (w : World) : Calls Tryd.prog 27 #[.string s, .int .i32 r] w fun e w' => e = .returned (.bool false) ∧ MM.Far [] w w' := by
  have H := Lib.hid (rune_high s hs0 hs ha r h1)
  clear ha
  go_enter Tryd.func27, Tryd.ntmps27
  go_wp2_with (go_at_call 31; refine (H.out _).mono ?_; rintro e w2 ⟨rfl, hF⟩; have HF := Lib.hid hF; clear hF)
  go_ret
  exact ⟨rfl, HF.out⟩
theorem mks_low : ∀ i (h : i < mks.size), (mks[i]).toNat < 128 := by
  intro i h
  have h2 : i < 16 := h
  have : ∀ i : Fin 16, (mks[i.1]'(by have := i.2; exact this)).toNat < 128 := by decide
  exact this ⟨i, h2⟩
set_option maxHeartbeats 2000000 in
theorem name_high (r : Int) (h1 : 128 ≤ r) (w : World) : Calls Tryd.prog 22 #[.int .i32 r] w fun e w' => e = .returned (.bool false) ∧ MM.Far [] w w' := by
  have H := Lib.hid (has_high mks (by decide) (by decide) mks_low r h1)
  have HD : Hid (∀ w, Calls Tryd.prog 26 #[.int .i32 r] w fun e w' => e = .returned (.bool false) ∧ w = w') := Lib.hid (by
    intro w
    have := isDigit_any r w
    rw [show decide (r ≤ 57) = false by simp; omega, Bool.and_false] at this
    exact this)
  have d1 : decide ((97 : Int) ≤ r) = true := by simp; omega
  have d2 : decide (r ≤ 122) = false := by simp; omega
  have d3 : decide ((65 : Int) ≤ r) = true := by simp; omega
  have d4 : decide (r ≤ 90) = false := by simp; omega
  clear h1
  go_enter Tryd.func22, Tryd.ntmps22
  go_wp2_with (first | (go_at_call 26; refine (HD.out _).mono ?_; rintro e w2 ⟨rfl, rfl⟩) | (go_at_call 27; refine (H.out _).mono ?_; rintro e w2 ⟨rfl, hF⟩; have HF := Lib.hid hF; clear hF))
  go_ret
  exact ⟨rfl, HF.out⟩
theorem let_mks {c : UInt8} (x1 : (decide (97 ≤ c.toNat) && decide (c.toNat ≤ 122)) = false) (x2 : (decide (65 ≤ c.toNat) && decide (c.toNat ≤ 90)) = false) (x3 : (decide (48 ≤ c.toNat) && decide (c.toNat ≤ 57)) = false) : let_ c = decide (0 ≤ Lib.indexByte (bts mks) c) := by
  rw [← Lib.contains_iff_indexByte]
  unfold let_
  rw [x1, x2, x3]
  rfl
set_option maxHeartbeats 2000000 in
theorem name_low (c : UInt8) (hc : c.toNat < 128) (w : World) : Calls Tryd.prog 22 #[.int .i32 (c.toNat : Int)] w fun e w' => e = .returned (.bool (let_ c)) ∧ MM.Far [] w w' := by
  have H : Hid (∀ w, Calls Tryd.prog 27 #[.string mks, .int .i32 (c.toNat : Int)] w fun e w' => e = .returned (.bool (decide (0 ≤ Lib.indexByte (bts mks) c))) ∧ w = w') := Lib.hid (by
    intro w
    have := has_low mks (c.toNat : Int) (by omega) (by omega) w
    rw [show ((c.toNat : Int)).toNat.toUInt8 = c by simp] at this
    exact this)
  have HD := Lib.hid (isDigit_any (c.toNat : Int))
  have HM := Lib.hid (@let_mks c)
  have HL : Hid ((97 ≤ c.toNat ∧ c.toNat ≤ 122) ∨ (65 ≤ c.toNat ∧ c.toNat ≤ 90) ∨ (48 ≤ c.toNat ∧ c.toNat ≤ 57) → let_ c = true) := Lib.hid (by
    intro h
    unfold let_
    rcases h with h | h | h <;> simp [h.1, h.2])
  generalize let_ c = b at *
  generalize Lib.indexByte (bts mks) c = q at *
  generalize c.toNat = n at *
  by_cases a1 : 97 ≤ n ∧ n ≤ 122
  · obtain rfl : b = true := HL.out (.inl a1)
    have d1 : decide ((97 : Int) ≤ n) = true := by simp; omega
    have d2 : decide ((n : Int) ≤ 122) = true := by simp; omega
    clear a1 hc
    go_enter Tryd.func22, Tryd.ntmps22
    go_wp2
    go_ret
    exact ⟨rfl, MM.Far.refl _ _⟩
  · by_cases a2 : 65 ≤ n ∧ n ≤ 90
    · obtain rfl : b = true := HL.out (.inr (.inl a2))
      have d1 : decide ((97 : Int) ≤ n) = false := by simp; omega
      have d3 : decide ((65 : Int) ≤ n) = true := by simp; omega
      have d4 : decide ((n : Int) ≤ 90) = true := by simp; omega
      clear a1 a2 hc
      go_enter Tryd.func22, Tryd.ntmps22
      go_wp2
      go_ret
      exact ⟨rfl, MM.Far.refl _ _⟩
    · by_cases a3 : 48 ≤ n ∧ n ≤ 57
      · obtain rfl : b = true := HL.out (.inr (.inr a3))
        have d1 : decide ((97 : Int) ≤ n) = false := by simp; omega
        have d3 : decide ((65 : Int) ≤ n) = false := by simp; omega
        rw [show decide ((48 : Int) ≤ n) = true by simp; omega, show decide ((n : Int) ≤ 57) = true by simp; omega] at HD
        have HD2 : Hid (∀ w, Calls Tryd.prog 26 #[.int .i32 (n : Int)] w fun e w' => e = .returned (.bool true) ∧ w = w') := HD
        clear a1 a2 a3 hc HD
        go_enter Tryd.func22, Tryd.ntmps22
        go_wp2_with (go_at_call 26; refine (HD2.out _).mono ?_; rintro e w2 ⟨rfl, rfl⟩)
        go_ret
        exact ⟨rfl, MM.Far.refl _ _⟩
      · obtain rfl : b = decide (0 ≤ q) := HM.out (by simp; omega) (by simp; omega) (by simp; omega)
        have HD2 : Hid (∀ w, Calls Tryd.prog 26 #[.int .i32 (n : Int)] w fun e w' => e = .returned (.bool false) ∧ w = w') := by
          have : (decide ((48 : Int) ≤ n) && decide ((n : Int) ≤ 57)) = false := by simp; omega
          rw [this] at HD
          exact HD
        have hcase : (decide ((97 : Int) ≤ n) = false ∧ decide ((65 : Int) ≤ n) = false) ∨ (decide ((97 : Int) ≤ n) = false ∧ decide ((65 : Int) ≤ n) = true ∧ decide ((n : Int) ≤ 90) = false) ∨ (decide ((97 : Int) ≤ n) = true ∧ decide ((n : Int) ≤ 122) = false ∧ decide ((65 : Int) ≤ n) = true ∧ decide ((n : Int) ≤ 90) = false) := by
          simp only [decide_eq_true_eq, decide_eq_false_iff_not]; omega
        clear a1 a2 a3 hc HD HL HM
        generalize decide (0 ≤ q) = b at H ⊢
        rcases hcase with ⟨d1, d2⟩ | ⟨d1, d2, d3⟩ | ⟨d1, d2, d3, d4⟩
        all_goals
          go_enter Tryd.func22, Tryd.ntmps22
          go_wp2_with (first | (go_at_call 26; refine (HD2.out _).mono ?_; rintro e w2 ⟨rfl, rfl⟩) | (go_at_call 27; refine (H.out _).mono ?_; rintro e w2 ⟨rfl, rfl⟩))
          go_ret
          exact ⟨rfl, MM.Far.refl _ _⟩
end LW
end Go.Proofs.YtbglcdjimipeeaaDoor
