/-
  Several texts in one: LexCode1, LexCode2, LexCode3, LexCode4, LexCode. Each one's own head tells its conditions.
-/
import Derived.Test.YtpbfgfadickgbaaGreatDoorLexRefs
import Derived.Lib.Bytealg
import Derived.Lib.IndexAny
import Derived.Lib.IndexLaws
import Derived.Laws.Runes
import Derived.Laws.RangeAny
import Derived.Lib.OthersKept
import Derived.Lib.Walk
import Derived.Deep.QuietTactic
import Derived.BigQuiet
import Derived.WalkMore
import Derived.IntWalk
import Derived.Test.YtpbfgfadickgbaaGreatDoorMemAll
import Derived.Lib.ConvBytes
/-
  Contracts of the code's own parts of layer 5: isDigit, isNameChar, with strings.ContainsRune and strings.IndexRune at the marks. Condition: a rune is one that a range over a text gives.
-/
namespace Go.Proofs.YtpbfgfadickgbaaGreatDoor
open Go.RowKit
namespace LW
open LX
theorem isDigit_any (n : Int) (w : World) : Calls Tryz.prog 100 #[.int .i32 n] w fun e w' => e = .returned (.bool (decide (48 ≤ n) && decide (n ≤ 57))) ∧ w = w' := by
  by_cases d1 : 48 ≤ n
  · by_cases d2 : n ≤ 57
    · have e1 : decide (48 ≤ n) = true := by simp [d1]
      have e2 : decide (n ≤ 57) = true := by simp [d2]
      rw [e1, e2]
      go_enter Tryz.func100, Tryz.ntmps100
      go_wp2
      go_ret
      exact ⟨rfl, rfl⟩
    · have e1 : decide (48 ≤ n) = true := by simp [d1]
      have e2 : decide (n ≤ 57) = false := by simp; omega
      rw [e1, e2]
      go_enter Tryz.func100, Tryz.ntmps100
      go_wp2
      go_ret
      exact ⟨rfl, rfl⟩
  · have e1 : decide (48 ≤ n) = false := by simp; omega
    rw [e1]
    go_enter Tryz.func100, Tryz.ntmps100
    go_wp2
    go_ret
    exact ⟨rfl, rfl⟩
set_option maxHeartbeats 1000000 in
set_option maxRecDepth 100000 in
theorem lite_byte (s : ByteArray) (c : Int) (w : World) : Calls Tryz.prog 135 #[.string s, .int .u8 c] w fun e w' => e = .returned (.int .i64 (Lib.indexByte (bts s) c.toNat.toUInt8)) ∧ w = w' := by
  go_enter Tryz.func135, Tryz.ntmps135
  go_wp2
  rw [run_callFunc_extern Tryz.func138 (by kernel_rfl) (by kernel_rfl) (by kernel_rfl) (e := Extern.BytealgIndexByte.indexByte) (by kernel_rfl), Lib.run_indexByteString]
  simp only [Result.andThen]
  rw [Oper.upon_value]
  go_wp2
  go_ret
  exact ⟨rfl, rfl⟩
set_option maxHeartbeats 1000000 in
theorem str_byte (s : ByteArray) (c : Int) (w : World) : Calls Tryz.prog 123 #[.string s, .int .u8 c] w fun e w' => e = .returned (.int .i64 (Lib.indexByte (bts s) c.toNat.toUInt8)) ∧ w = w' := by
  go_enter Tryz.func123, Tryz.ntmps123
  go_wp2_with (go_at_call 135; refine (lite_byte _ _ _).mono ?_; rintro e w' ⟨rfl, rfl⟩)
  go_ret
  exact ⟨rfl, rfl⟩
set_option maxHeartbeats 1000000 in
set_option maxRecDepth 100000 in
theorem rune_low (s : ByteArray) (n : Int) (h0 : 0 ≤ n) (h1 : n < 128) (w : World) : Calls Tryz.prog 113 #[.string s, .int .i32 n] w fun e w' => e = .returned (.int .i64 (Lib.indexByte (bts s) n.toNat.toUInt8)) ∧ w = w' := by
  go_enter Tryz.func113, Tryz.ntmps113
  go_wp2_with (go_at_call 123; refine (str_byte _ _ _).mono ?_; rintro e w' ⟨rfl, rfl⟩)
  go_ret
  exact ⟨rfl, rfl⟩
set_option maxHeartbeats 1000000 in
theorem has_low (s : ByteArray) (n : Int) (h0 : 0 ≤ n) (h1 : n < 128) (w : World) : Calls Tryz.prog 101 #[.string s, .int .i32 n] w fun e w' => e = .returned (.bool (decide (0 ≤ Lib.indexByte (bts s) n.toNat.toUInt8))) ∧ w = w' := by
  go_enter Tryz.func101, Tryz.ntmps101
  go_wp2_with (go_at_call 113; refine (rune_low _ _ h0 h1 _).mono ?_; rintro e w' ⟨rfl, rfl⟩)
  go_ret
  exact ⟨rfl, rfl⟩
theorem iter_far (w : World) (s : ByteArray) (p : Nat) : MM.Far [] w (w.iter s p) := (MM.Far.refl [] w).alloc _
set_option maxHeartbeats 2000000 in
set_option maxRecDepth 100000 in
theorem rune_bad (s : ByteArray) (hs : s.size ≤ 5000) (ha : ∀ i (h : i < s.size), (s[i]).toNat < 128) (w : World) : Calls Tryz.prog 113 #[.string s, .int .i32 65533] w fun e w' => e = .returned (.int .i64 (-1)) ∧ MM.Far [] w w' := by
  have HA := Lib.hid ha
  clear ha
  go_enter Tryz.func113, Tryz.ntmps113
  go_wp2
  go_loopw [] (fun wr => ∃ pos : Nat, pos ≤ s.size ∧ wr = w.iter s pos) (fun wr => s.size - wr.iterPos w.heap.size)
  case atStart => exact ⟨0, by omega, rfl⟩
  case round =>
    obtain ⟨pos, hp, rfl⟩ := hrel
    by_cases hlt : pos < s.size
    · have h1 := HA.out pos hlt
      have hnx : ∀ ty, (Instr.next (.pointer (some ⟨w.heap.size, 0, none⟩)) true ty).run Tryz.prog (w.iter s pos) = _ := fun ty => run_next_ascii w s pos ty hlt h1
      have d1 : (((s[pos]).toNat : Int) == 65533) = false := by rw [beq_eq_false_iff_ne]; omega
      go_wp2
      go_roundw
      case rel => exact ⟨pos + 1, by omega, rfl⟩
      case measure => simp; omega
    · have hnx : ∀ ty, (Instr.next (.pointer (some ⟨w.heap.size, 0, none⟩)) true ty).run Tryz.prog (w.iter s pos) = _ := fun ty => run_next_end w s pos ty hlt
      go_wp2
      go_ret
      exact ⟨rfl, iter_far _ _ _⟩
theorem vr_yes {r : Int} (h : (0 ≤ r ∧ r < 55296) ∨ (57343 < r ∧ r ≤ 1114111)) : validRune r = true := by unfold validRune; simpa using h
theorem vr_no {r : Int} (h : ¬ ((0 ≤ r ∧ r < 55296) ∨ (57343 < r ∧ r ≤ 1114111))) : validRune r = false := by unfold validRune; exact decide_eq_false h
theorem valid_any (r : Int) (w : World) : Calls Tryz.prog 124 #[.int .i32 r] w fun e w' => e = .returned (.bool (validRune r)) ∧ w = w' := by
  go_enter Tryz.func124, Tryz.ntmps124
  go_wp2
  all_goals (go_ret; refine ⟨ret_bool ?_, rfl⟩; first | exact (vr_yes (by omega)).symm | exact (vr_no (by omega)).symm)
set_option maxHeartbeats 2000000 in
set_option maxRecDepth 100000 in
theorem rune_none (s : ByteArray) (r : Int) (h1 : 128 ≤ r) (h2 : r ≠ 65533) (h3 : validRune r = false) (w : World) : Calls Tryz.prog 113 #[.string s, .int .i32 r] w fun e w' => e = .returned (.int .i64 (-1)) ∧ w = w' := by
  have d1 : decide (r < 128) = false := by simp; omega
  have d2 : (r == 65533) = false := by rw [beq_eq_false_iff_ne]; exact h2
  have HV := Lib.hid (valid_any r)
  rw [h3] at HV
  clear h2 h3
  go_enter Tryz.func113, Tryz.ntmps113
  go_wp2_with (go_at_call 124; refine (HV.out _).mono ?_; rintro e w' ⟨rfl, rfl⟩)
  go_ret
  exact ⟨rfl, rfl⟩
theorem quiet_d {P : Program} {f : FuncId} {args : Array Value} {w : World} {n : Nat} {v : Value} (h : Calls P f args (w.drewN n) fun e w' => e = .returned v ∧ w.drewN n = w') : Calls P f args (w.drewN n) fun e w'' => e = .returned v ∧ ∃ m, w'' = w.drewN m :=
  h.mono fun _ _ ⟨he, hm⟩ => ⟨he, n, hm.symm⟩
theorem none_from (s : ByteArray) (a : Nat) (c : UInt8) (ha : ∀ i (h : i < s.size), (s[i]).toNat < 128) (hc : 128 ≤ c.toNat) : Lib.indexByte (bts (s.extract a s.size)) c = -1 := by
  unfold bts
  rw [← Lib.firstIdx_eq]
  refine firstIdx_ascii s a s.size c ?_ hc
  intro b hb
  obtain ⟨i, hi, rfl⟩ := List.mem_iff_getElem.1 hb
  have h2 : i < s.size := by rw [← bts_len]; exact hi
  have := at_bts s i h2 hi
  unfold bts at this
  rw [this]; exact ha i h2
set_option maxHeartbeats 4000000 in
set_option maxRecDepth 100000 in
theorem rune_far (s : ByteArray) (hs0 : 4 ≤ s.size) (hs : s.size ≤ 5000) (ha : ∀ i (h : i < s.size), (s[i]).toNat < 128) (r : Int) (h1 : 128 ≤ r) (h2 : r ≠ 65533) (h3 : validRune r = true) (w : World) : Calls Tryz.prog 113 #[.string s, .int .i32 r] w fun e w' => e = .returned (.int .i64 (-1)) ∧ MM.Far [] w w' := by
  have d1 : decide (r < 128) = false := by simp; omega
  have d2 : (r == 65533) = false := by rw [beq_eq_false_iff_ne]; exact h2
  have HV := Lib.hid (valid_any r)
  rw [h3] at HV
  obtain ⟨e1, e2, e3⟩ := encode_facts r (by rw [validRune_eq]; exact h3) h1
  generalize hz : Utf8.encode r = z at e1 e2 e3
  have HZ := Lib.hid hz
  obtain ⟨m, hm⟩ : ∃ m, z.size = m + 1 := ⟨z.size - 1, by omega⟩
  have hzl : m < z.size := by omega
  have e4 : 128 ≤ (z[m]'hzl).toNat := by
    have h := e3 (by omega)
    have : z[z.size - 1]'(by omega) = z[m]'hzl := by congr 1; omega
    rw [this] at h; exact h
  have hms : m < s.size := by omega
  have e5 := ha m hms
  have HI := Lib.hid (none_from s (m + 1) (z[m]'hzl) ha e4)
  have HB : Hid (∀ w, Calls Tryz.prog 123 #[.string (s.extract (m + 1) s.size), .int .u8 ((z[m]'hzl).toNat : Int)] w fun e w' => e = .returned (.int .i64 (-1)) ∧ w = w') := Lib.hid (by
    intro w
    have := str_byte (s.extract (m + 1) s.size) ((z[m]'hzl).toNat : Int) w
    rw [show ((z[m]'hzl).toNat : Int).toNat.toUInt8 = z[m]'hzl by simp] at this
    rw [HI.out] at this
    exact this)
  have d5 : (((s[m]'hms).toNat : Int) == ((z[m]'hzl).toNat : Int)) = false := by rw [beq_eq_false_iff_ne]; omega
  have d6 : (((s[m]'hms).toNat : Int) != ((z[m]'hzl).toNat : Int)) = true := by rw [bne_iff_ne]; omega
  have hcv : ∀ W, (convert 21 9 (.int .i32 r)).run Tryz.prog W = .ok (.string z) W := fun W => by
    rw [← HZ.out]
    exact run_convert_int_string W 21 9 .i32 r (by rw [Tryz.underlying21]; rfl) Tryz.underlying9
  clear h2 h3 ha hz e3 hs0
  go_enter Tryz.func113, Tryz.ntmps113
  go_wp2_with (go_at_call 124; refine (HV.out _).mono ?_; rintro e w' ⟨rfl, rfl⟩)
  go_wp2
  go_step3
  go_wp2
  go_loop [9] (fun i => i = .int .i64 (m : Int)) (fun i => 0)
  case atStart => rfl
  case round =>
    obtain rfl := hrel
    clear hm
    go_wp2
    go_step3
    go_wp2
    go_quiet (fail)
    have HF := Lib.hid ((MM.Far.refl [] w).drewN nq)
    generalize w.drewN nq = w1 at HF ⊢
    go_wp2
    have q0 : m + 1 ≤ s.size := by omega
    have q1 : IntKind.i64.wrap ((m : Int) + 1) = (m : Int) + 1 := IntWalk.i64_in _ (by omega)
    have q2 : (0 : Int) ≤ (m : Int) + 1 := by omega
    have q3 : ((m : Int) + 1).toNat = m + 1 := by omega
    have hsl : ∀ W, (Instr.slice 9 (.string s) (some (.int .i64 ((m : Int) + 1))) none none).run Tryz.prog W = .ok (.string (s.extract (m + 1) s.size)) W := fun W => by
      rw [run_slice_string_from_if W 9 s .i64 _ Tryz.underlying9, if_pos ⟨by omega, by omega⟩, q3]
    go_quiet ((go_at_call 123; exact quiet_d (HB.out _)))
    go_wp2
    rw [Exit.noGoto_ret]
    simp only [Exit.inBlock]
    show Exit.inBlock 0 (Exit.inBlock 1 (Exit.then _ (Exit.noGoto (Exit.inBlock 0 _)))) Exit.ret _ _
    simp only [Exit.inBlock, Exit.then]
    rw [Exit.noGoto_ret]
    simp only [Exit.inBlock]
    go_ret
    exact ⟨rfl, HF.out.drewN _⟩
theorem rune_high (s : ByteArray) (hs0 : 4 ≤ s.size) (hs : s.size ≤ 5000) (ha : ∀ i (h : i < s.size), (s[i]).toNat < 128) (r : Int) (h1 : 128 ≤ r) (w : World) : Calls Tryz.prog 113 #[.string s, .int .i32 r] w fun e w' => e = .returned (.int .i64 (-1)) ∧ MM.Far [] w w' := by
  by_cases h2 : r = 65533
  · subst h2; exact rune_bad s hs ha w
  · by_cases h3 : validRune r = true
    · exact rune_far s hs0 hs ha r h1 h2 h3 w
    · exact (rune_none s r h1 h2 (by simpa using h3) w).mono fun _ _ ⟨h, k⟩ => ⟨h, k ▸ MM.Far.refl _ _⟩
set_option maxHeartbeats 1000000 in
theorem has_high (s : ByteArray) (hs0 : 4 ≤ s.size) (hs : s.size ≤ 5000) (ha : ∀ i (h : i < s.size), (s[i]).toNat < 128) (r : Int) (h1 : 128 ≤ r) (w : World) : Calls Tryz.prog 101 #[.string s, .int .i32 r] w fun e w' => e = .returned (.bool false) ∧ MM.Far [] w w' := by
  have H := Lib.hid (rune_high s hs0 hs ha r h1)
  clear ha
  go_enter Tryz.func101, Tryz.ntmps101
  go_wp2_with (go_at_call 113; refine (H.out _).mono ?_; rintro e w2 ⟨rfl, hF⟩; have HF := Lib.hid hF; clear hF)
  go_ret
  exact ⟨rfl, HF.out⟩
theorem mks_low : ∀ i (h : i < mks.size), (mks[i]).toNat < 128 := by
  intro i h
  have h2 : i < 16 := h
  have : ∀ i : Fin 16, (mks[i.1]'(by have := i.2; exact this)).toNat < 128 := by decide
  exact this ⟨i, h2⟩
set_option maxHeartbeats 2000000 in
theorem name_high (r : Int) (h1 : 128 ≤ r) (w : World) : Calls Tryz.prog 73 #[.int .i32 r] w fun e w' => e = .returned (.bool false) ∧ MM.Far [] w w' := by
  have H := Lib.hid (has_high mks (by decide) (by decide) mks_low r h1)
  have HD : Hid (∀ w, Calls Tryz.prog 100 #[.int .i32 r] w fun e w' => e = .returned (.bool false) ∧ w = w') := Lib.hid (by
    intro w
    have := isDigit_any r w
    rw [show decide (r ≤ 57) = false by simp; omega, Bool.and_false] at this
    exact this)
  have d1 : decide ((97 : Int) ≤ r) = true := by simp; omega
  have d2 : decide (r ≤ 122) = false := by simp; omega
  have d3 : decide ((65 : Int) ≤ r) = true := by simp; omega
  have d4 : decide (r ≤ 90) = false := by simp; omega
  clear h1
  go_enter Tryz.func73, Tryz.ntmps73
  go_wp2_with (first | (go_at_call 100; refine (HD.out _).mono ?_; rintro e w2 ⟨rfl, rfl⟩) | (go_at_call 101; refine (H.out _).mono ?_; rintro e w2 ⟨rfl, hF⟩; have HF := Lib.hid hF; clear hF))
  go_ret
  exact ⟨rfl, HF.out⟩
theorem let_mks {c : UInt8} (x1 : (decide (97 ≤ c.toNat) && decide (c.toNat ≤ 122)) = false) (x2 : (decide (65 ≤ c.toNat) && decide (c.toNat ≤ 90)) = false) (x3 : (decide (48 ≤ c.toNat) && decide (c.toNat ≤ 57)) = false) : let_ c = decide (0 ≤ Lib.indexByte (bts mks) c) := by
  rw [← Lib.contains_iff_indexByte]
  unfold let_
  rw [x1, x2, x3]
  rfl
set_option maxHeartbeats 2000000 in
theorem name_low (c : UInt8) (hc : c.toNat < 128) (w : World) : Calls Tryz.prog 73 #[.int .i32 (c.toNat : Int)] w fun e w' => e = .returned (.bool (let_ c)) ∧ MM.Far [] w w' := by
  have H : Hid (∀ w, Calls Tryz.prog 101 #[.string mks, .int .i32 (c.toNat : Int)] w fun e w' => e = .returned (.bool (decide (0 ≤ Lib.indexByte (bts mks) c))) ∧ w = w') := Lib.hid (by
    intro w
    have := has_low mks (c.toNat : Int) (by omega) (by omega) w
    rw [show ((c.toNat : Int)).toNat.toUInt8 = c by simp] at this
    exact this)
  have HD := Lib.hid (isDigit_any (c.toNat : Int))
  have HM := Lib.hid (@let_mks c)
  have HL : Hid ((97 ≤ c.toNat ∧ c.toNat ≤ 122) ∨ (65 ≤ c.toNat ∧ c.toNat ≤ 90) ∨ (48 ≤ c.toNat ∧ c.toNat ≤ 57) → let_ c = true) := Lib.hid (by
    intro h
    unfold let_
    rcases h with h | h | h <;> simp [h.1, h.2])
  generalize let_ c = b at *
  generalize Lib.indexByte (bts mks) c = q at *
  generalize c.toNat = n at *
  by_cases a1 : 97 ≤ n ∧ n ≤ 122
  · obtain rfl : b = true := HL.out (.inl a1)
    have d1 : decide ((97 : Int) ≤ n) = true := by simp; omega
    have d2 : decide ((n : Int) ≤ 122) = true := by simp; omega
    clear a1 hc
    go_enter Tryz.func73, Tryz.ntmps73
    go_wp2
    go_ret
    exact ⟨rfl, MM.Far.refl _ _⟩
  · by_cases a2 : 65 ≤ n ∧ n ≤ 90
    · obtain rfl : b = true := HL.out (.inr (.inl a2))
      have d1 : decide ((97 : Int) ≤ n) = false := by simp; omega
      have d3 : decide ((65 : Int) ≤ n) = true := by simp; omega
      have d4 : decide ((n : Int) ≤ 90) = true := by simp; omega
      clear a1 a2 hc
      go_enter Tryz.func73, Tryz.ntmps73
      go_wp2
      go_ret
      exact ⟨rfl, MM.Far.refl _ _⟩
    · by_cases a3 : 48 ≤ n ∧ n ≤ 57
      · obtain rfl : b = true := HL.out (.inr (.inr a3))
        have d1 : decide ((97 : Int) ≤ n) = false := by simp; omega
        have d3 : decide ((65 : Int) ≤ n) = false := by simp; omega
        rw [show decide ((48 : Int) ≤ n) = true by simp; omega, show decide ((n : Int) ≤ 57) = true by simp; omega] at HD
        have HD2 : Hid (∀ w, Calls Tryz.prog 100 #[.int .i32 (n : Int)] w fun e w' => e = .returned (.bool true) ∧ w = w') := HD
        clear a1 a2 a3 hc HD
        go_enter Tryz.func73, Tryz.ntmps73
        go_wp2_with (go_at_call 100; refine (HD2.out _).mono ?_; rintro e w2 ⟨rfl, rfl⟩)
        go_ret
        exact ⟨rfl, MM.Far.refl _ _⟩
      · obtain rfl : b = decide (0 ≤ q) := HM.out (by simp; omega) (by simp; omega) (by simp; omega)
        have HD2 : Hid (∀ w, Calls Tryz.prog 100 #[.int .i32 (n : Int)] w fun e w' => e = .returned (.bool false) ∧ w = w') := by
          have : (decide ((48 : Int) ≤ n) && decide ((n : Int) ≤ 57)) = false := by simp; omega
          rw [this] at HD
          exact HD
        have hcase : (decide ((97 : Int) ≤ n) = false ∧ decide ((65 : Int) ≤ n) = false) ∨ (decide ((97 : Int) ≤ n) = false ∧ decide ((65 : Int) ≤ n) = true ∧ decide ((n : Int) ≤ 90) = false) ∨ (decide ((97 : Int) ≤ n) = true ∧ decide ((n : Int) ≤ 122) = false ∧ decide ((65 : Int) ≤ n) = true ∧ decide ((n : Int) ≤ 90) = false) := by
          simp only [decide_eq_true_eq, decide_eq_false_iff_not]; omega
        clear a1 a2 a3 hc HD HL HM
        generalize decide (0 ≤ q) = b at H ⊢
        rcases hcase with ⟨d1, d2⟩ | ⟨d1, d2, d3⟩ | ⟨d1, d2, d3, d4⟩
        all_goals
          go_enter Tryz.func73, Tryz.ntmps73
          go_wp2_with (first | (go_at_call 100; refine (HD2.out _).mono ?_; rintro e w2 ⟨rfl, rfl⟩) | (go_at_call 101; refine (H.out _).mono ?_; rintro e w2 ⟨rfl, rfl⟩))
          go_ret
          exact ⟨rfl, MM.Far.refl _ _⟩
end LW
end Go.Proofs.YtpbfgfadickgbaaGreatDoor
/-
  Contracts of the code's own parts of layer 5: nameChars, gap: a range over a text, rune by rune. No condition.
-/
namespace Go.Proofs.YtpbfgfadickgbaaGreatDoor
open Go.RowKit
namespace LW
open LX
/-- An iterator over s stands at pos, in the first block that is new since w. -/
structure It (w : World) (s : ByteArray) (pos : Nat) (wr : World) : Prop where
  far : MM.Far [] w wr
  it : wr.heap[w.heap.size]? = some (.stringIter s pos)
theorem It.begin (w : World) (s : ByteArray) : It w s 0 (w.iter s 0) := ⟨iter_far _ _ _, World.iter_heap w s 0⟩
theorem It.next {w wr : World} {s : ByteArray} {pos : Nat} (h : It w s pos wr) (p : Nat) : It w s p (wr.iterAt w.heap.size s p) := by
  refine ⟨?_, Lib.iterAt_heap wr _ s pos p h.it⟩
  refine h.far.trans (S' := [w.heap.size]) ⟨rfl, rfl, rfl, by rw [Lib.iterAt_size]; exact Nat.le_refl _, fun k _ hn => Lib.iterAt_other wr _ k s p (by simpa using hn)⟩ ?_
  intro b hb hlt
  simp at hb; omega
theorem It.to {w wr w2 : World} {s : ByteArray} {pos : Nat} (h : It w s pos wr) (f : MM.Far [] wr w2) : It w s pos w2 := by
  refine ⟨h.far.trans f (by simp), ?_⟩
  rw [f.block _ (Array.getElem?_eq_some_iff.1 h.it).1 (by simp)]
  exact h.it
theorem It.pos {w wr : World} {s : ByteArray} {pos : Nat} (h : It w s pos wr) : wr.iterPos w.heap.size = pos := by
  unfold World.iterPos; rw [h.it]
theorem ret_num {k : IntKind} {a b : Int} (h : a = b) : Ending.returned (.int k a) = .returned (.int k b) := by rw [h]
theorem let_high {c : UInt8} (h : 128 ≤ c.toNat) : let_ c = false := by
  have : ∀ c : Fin 256, 128 ≤ c.1 → let_ (UInt8.ofNat c.1) = false := by decide +kernel
  have h2 := this ⟨c.toNat, c.toNat_lt⟩ h
  simpa using h2
set_option maxHeartbeats 2000000 in
theorem chars_any (s : ByteArray) (w : World) : Calls Tryz.prog 39 #[.string s] w fun e w' => e = .returned (.int .i64 ((LX.word (bts s)).length : Int)) ∧ MM.Far [] w w' := by
  obtain ⟨n, hn⟩ : ∃ n, (LX.word (bts s)).length = n := ⟨_, rfl⟩
  have hle : n ≤ s.size := by
    have := word_le (bts s)
    rw [bts_len] at this; omega
  have hyes : ∀ j (h : j < s.size), j < n → let_ s[j] = true := by
    intro j h hj
    obtain ⟨x, h1, h2⟩ := tw_yes (p := let_) (l := bts s) (j := j) (by unfold word at hn; omega)
    rw [data_at s j h] at h1
    cases h1; exact h2
  have hno : ∀ (h : n < s.size), let_ s[n] = false := by
    intro h
    unfold word at hn
    obtain ⟨x, h1, h2⟩ := tw_no (p := let_) (l := bts s) (by rw [bts_len]; omega)
    rw [hn, data_at s n h] at h1
    cases h1; exact h2
  rw [hn]
  have HY := Lib.hid hyes
  have HN := Lib.hid hno
  have HB := Lib.hid (It.begin w s)
  clear hyes hno hn
  go_enter Tryz.func39, Tryz.ntmps39
  go_wp2
  go_loopw [] (fun wr => ∃ pos : Nat, pos ≤ n ∧ Hid (It w s pos wr)) (fun wr => s.size - wr.iterPos w.heap.size)
  case atStart => exact ⟨0, by omega, HB⟩
  case round =>
    obtain ⟨pos, hp, hI⟩ := hrel
    have hit := hI.out.it
    have HP := Lib.hid hI.out.pos
    by_cases hlt : pos < s.size
    · by_cases ha : (s[pos]).toNat < 128
      · have hnx : ∀ ty, (Instr.next (.pointer (some ⟨w.heap.size, 0, none⟩)) true ty).run Tryz.prog wr = _ := fun ty => Lib.run_next_ascii_at wr w.heap.size s pos ty hit hlt ha
        have HI2 := Lib.hid (hI.out.next (pos + 1))
        by_cases hpn : pos < n
        · have hL := name_low s[pos] ha
          rw [HY.out pos hlt hpn] at hL
          have HL := Lib.hid hL
          clear hL hit ha hI
          go_wp2_with (go_at_call 73; refine (HL.out _).mono ?_; rintro e w2 ⟨rfl, hF⟩; have HI3 := Lib.hid (HI2.out.to hF); clear hF)
          go_roundw
          case rel => exact ⟨pos + 1, by omega, HI3⟩
          case measure => rw [HI3.out.pos, HP.out]; omega
        · obtain rfl : pos = n := by omega
          have hL := name_low s[pos] ha
          rw [HN.out hlt] at hL
          have HL := Lib.hid hL
          clear hL hit ha hI hpn
          go_wp2_with (go_at_call 73; refine (HL.out _).mono ?_; rintro e w2 ⟨rfl, hF⟩; have HI3 := Lib.hid (HI2.out.to hF); clear hF)
          go_ret
          exact ⟨rfl, HI3.out.far⟩
      · have ha : 128 ≤ (s[pos]).toNat := by omega
        have hpn : pos = n := by
          have : ¬ pos < n := by
            intro h
            have h1 := HY.out pos hlt h
            rw [let_high ha] at h1; cases h1
          omega
        subst hpn
        have hd := (decode_high s pos hlt ha).1
        have hnx : ∀ ty, (Instr.next (.pointer (some ⟨w.heap.size, 0, none⟩)) true ty).run Tryz.prog wr = _ := fun ty => Lib.run_next_any_at wr w.heap.size s pos ty hit hlt
        have HI2 := Lib.hid (hI.out.next (pos + (Utf8.decode s pos).2))
        generalize Utf8.decode s pos = d at *
        have HL := Lib.hid (name_high (d.1 : Int) (by omega))
        clear hit ha hI hd
        go_wp2_with (go_at_call 73; refine (HL.out _).mono ?_; rintro e w2 ⟨rfl, hF⟩; have HI3 := Lib.hid (HI2.out.to hF); clear hF)
        go_ret
        exact ⟨rfl, HI3.out.far⟩
    · obtain rfl : pos = n := by omega
      have HE : Hid (s.size = pos) := Lib.hid (by omega)
      have hnx : ∀ ty, (Instr.next (.pointer (some ⟨w.heap.size, 0, none⟩)) true ty).run Tryz.prog wr = _ := fun ty => Lib.run_next_end_at wr w.heap.size s pos ty hit hlt
      clear hit
      go_wp2
      go_ret
      exact ⟨ret_num (by rw [HE.out]), hI.out.far⟩
theorem drop_at0 (s : ByteArray) (i : Nat) (h : i < s.size) : (bts s).drop i = s[i] :: (bts s).drop (i + 1) := drop_cons s i h
def GI (s : ByteArray) (w : World) (G : Nat) (cm : Bool) (pos : Nat) (wr : World) : Prop := It w s pos wr ∧ pos + gapF cm ((bts s).drop pos) = G
theorem GI.go {s : ByteArray} {w wr w2 : World} {G pos p : Nat} {cm cm2 : Bool} (h : GI s w G cm pos wr) (h2 : It w s p w2) (e : gapF cm ((bts s).drop pos) = p - pos + gapF cm2 ((bts s).drop p)) (hp : pos ≤ p) : GI s w G cm2 p w2 := ⟨h2, by have := h.2; omega⟩
theorem hi_gap (s : ByteArray) (pos : Nat) (h : pos < s.size) (ha : 128 ≤ (s[pos]'h).toNat) : gapF true ((bts s).drop pos) = (Utf8.decode s pos).2 + gapF true ((bts s).drop (pos + (Utf8.decode s pos).2)) := by
  rw [gapF_hi (Utf8.decode s pos).2 ((bts s).drop pos) (fun j hj => ?_), List.drop_drop]
  obtain ⟨hj2, h2⟩ := decode_bytes s pos h ha j hj
  exact ⟨_, drop_at s pos j hj2, h2⟩
theorem dec_in (s : ByteArray) (pos : Nat) (h : pos < s.size) (ha : 128 ≤ (s[pos]'h).toNat) : pos + (Utf8.decode s pos).2 ≤ s.size := by
  have h1 := (decode_high s pos h ha).2
  obtain ⟨hj, _⟩ := decode_bytes s pos h ha ((Utf8.decode s pos).2 - 1) (by omega)
  omega
theorem not_eq {c : UInt8} {n : Int} (h : c.toNat ≠ n.toNat) (hn : 0 ≤ n) : ((c.toNat : Int) == n) = false := by rw [beq_eq_false_iff_ne]; omega
set_option maxHeartbeats 4000000 in
theorem gap_any (s : ByteArray) (w : World) : Calls Tryz.prog 21 #[.string s] w fun e w' => e = .returned (.int .i64 ((gapF false (bts s) : Nat) : Int)) ∧ MM.Far [] w w' := by
  obtain ⟨G, hG⟩ : ∃ G, gapF false (bts s) = G := ⟨_, rfl⟩
  have hle : G ≤ s.size := by
    have := gapF_le false (bts s)
    rw [bts_len] at this; omega
  have HB : Hid (GI s w G false 0 (w.iter s 0)) := Lib.hid ⟨It.begin w s, by rw [List.drop_zero, Nat.zero_add]; exact hG⟩
  rw [hG]
  clear hG
  go_enter Tryz.func21, Tryz.ntmps21
  go_wp2
  go_loopw [3] (fun s3 wr => ∃ (pos : Nat) (cm : Bool), pos ≤ s.size ∧ s3 = .bool cm ∧ Hid (GI s w G cm pos wr)) (fun _ wr => s.size - wr.iterPos w.heap.size)
  case atStart => exact ⟨0, false, by omega, rfl, HB⟩
  case round =>
    obtain ⟨pos, cm, hp, rfl, hI⟩ := hrel
    have hit := hI.out.1.it
    have HP := Lib.hid hI.out.1.pos
    by_cases hlt : pos < s.size
    · by_cases ha : (s[pos]).toNat < 128
      · have hnx : ∀ ty, (Instr.next (.pointer (some ⟨w.heap.size, 0, none⟩)) true ty).run Tryz.prog wr = _ := fun ty => Lib.run_next_ascii_at wr w.heap.size s pos ty hit hlt ha
        have HI2 := Lib.hid (hI.out.1.next (pos + 1))
        have hd := drop_cons s pos hlt
        by_cases h10 : s[pos] = 10
        · have HN : Hid (GI s w G false (pos + 1) (wr.iterAt w.heap.size s (pos + 1))) := Lib.hid (hI.out.go HI2.out (by rw [hd, h10, gapF_nl]; omega) (by omega))
          have d10 := eq_yes h10 (n := 10) rfl
          clear hd h10 hit ha
          go_wp2
          go_roundw
          case rel => exact ⟨pos + 1, false, by omega, rfl, HN⟩
          case measure => rw [HI2.out.pos, HP.out]; omega
        · have d10 := eq_no h10 (n := 10) rfl
          by_cases h59 : s[pos] = 59
          · have HN : Hid (GI s w G true (pos + 1) (wr.iterAt w.heap.size s (pos + 1))) := Lib.hid (hI.out.go HI2.out (by rw [hd, h59, gapF_note]; omega) (by omega))
            have d59 := eq_yes h59 (n := 59) rfl
            clear hd h10 h59 hit ha
            go_wp2
            go_roundw
            case rel => exact ⟨pos + 1, true, by omega, rfl, HN⟩
            case measure => rw [HI2.out.pos, HP.out]; omega
          · have d59 := eq_no h59 (n := 59) rfl
            cases cm with
            | true =>
              have HN : Hid (GI s w G true (pos + 1) (wr.iterAt w.heap.size s (pos + 1))) := Lib.hid (hI.out.go HI2.out (by rw [hd, gapF_in _ h10 h59]; omega) (by omega))
              clear hd h10 h59 hit ha
              go_wp2
              go_roundw
              case rel => exact ⟨pos + 1, true, by omega, rfl, HN⟩
              case measure => rw [HI2.out.pos, HP.out]; omega
            | false =>
              by_cases h32 : s[pos] = 32
              · have HN : Hid (GI s w G false (pos + 1) (wr.iterAt w.heap.size s (pos + 1))) := Lib.hid (hI.out.go HI2.out (by rw [hd, gapF_blank _ _ (.inl h32)]; omega) (by omega))
                have d32 := eq_yes h32 (n := 32) rfl
                have d32' : (((s[pos]).toNat : Int) != 32) = false := by rw [bne, d32]; rfl
                clear hd h10 h59 h32 hit ha
                go_wp2
                go_roundw
                case rel => exact ⟨pos + 1, false, by omega, rfl, HN⟩
                case measure => rw [HI2.out.pos, HP.out]; omega
              · have d32 := eq_no h32 (n := 32) rfl
                have d32' : (((s[pos]).toNat : Int) != 32) = true := by rw [bne, d32]; rfl
                have n32 : ¬ (((s[pos]).toNat : Int) = 32) := by simpa using d32
                by_cases h9 : s[pos] = 9
                · have HN : Hid (GI s w G false (pos + 1) (wr.iterAt w.heap.size s (pos + 1))) := Lib.hid (hI.out.go HI2.out (by rw [hd, gapF_blank _ _ (.inr h9)]; omega) (by omega))
                  have d9 := eq_yes h9 (n := 9) rfl
                  have d9' : (((s[pos]).toNat : Int) != 9) = false := by rw [bne, d9]; rfl
                  clear hd h10 h59 h32 h9 hit ha
                  go_wp2
                  go_roundw
                  case rel => exact ⟨pos + 1, false, by omega, rfl, HN⟩
                  case measure => rw [HI2.out.pos, HP.out]; omega
                · have d9 := eq_no h9 (n := 9) rfl
                  have d9' : (((s[pos]).toNat : Int) != 9) = true := by rw [bne, d9]; rfl
                  have n9 : ¬ (((s[pos]).toNat : Int) = 9) := by simpa using d9
                  have HE : Hid (pos = G) := Lib.hid (by have := hI.out.2; rw [hd, gapF_end _ h10 h59 h32 h9] at this; omega)
                  clear hd h10 h59 h32 h9 hit ha
                  go_wp2
                  go_ret
                  exact ⟨ret_num (by rw [HE.out]), HI2.out.far⟩
      · have ha : 128 ≤ (s[pos]).toNat := by omega
        have hnx : ∀ ty, (Instr.next (.pointer (some ⟨w.heap.size, 0, none⟩)) true ty).run Tryz.prog wr = _ := fun ty => Lib.run_next_any_at wr w.heap.size s pos ty hit hlt
        have HI2 := Lib.hid (hI.out.1.next (pos + (Utf8.decode s pos).2))
        obtain ⟨hd1, hd2⟩ := decode_high s pos hlt ha
        cases cm with
        | true =>
          have hin := dec_in s pos hlt ha
          have HN : Hid (GI s w G true (pos + (Utf8.decode s pos).2) (wr.iterAt w.heap.size s (pos + (Utf8.decode s pos).2))) := Lib.hid (hI.out.go HI2.out (by rw [hi_gap s pos hlt ha]; omega) (by omega))
          generalize Utf8.decode s pos = d at *
          have d10 : ((d.1 : Int) == 10) = false := by rw [beq_eq_false_iff_ne]; omega
          have d59 : ((d.1 : Int) == 59) = false := by rw [beq_eq_false_iff_ne]; omega
          clear hit ha
          go_wp2
          go_roundw
          case rel => exact ⟨pos + d.2, true, hin, rfl, HN⟩
          case measure => rw [HI2.out.pos, HP.out]; omega
        | false =>
          have HE : Hid (pos = G) := Lib.hid (by
            have := hI.out.2
            have n (x : UInt8) (hx : x.toNat < 128) : s[pos] ≠ x := by intro e; rw [e] at ha; omega
            rw [drop_cons s pos hlt, gapF_end _ (n 10 (by decide)) (n 59 (by decide)) (n 32 (by decide)) (n 9 (by decide))] at this
            omega)
          generalize Utf8.decode s pos = d at *
          have d10 : ((d.1 : Int) == 10) = false := by rw [beq_eq_false_iff_ne]; omega
          have d59 : ((d.1 : Int) == 59) = false := by rw [beq_eq_false_iff_ne]; omega
          have d32 : ((d.1 : Int) == 32) = false := by rw [beq_eq_false_iff_ne]; omega
          have d9 : ((d.1 : Int) == 9) = false := by rw [beq_eq_false_iff_ne]; omega
          have d32' : ((d.1 : Int) != 32) = true := by rw [bne, d32]; rfl
          have d9' : ((d.1 : Int) != 9) = true := by rw [bne, d9]; rfl
          have n32 : ¬ ((d.1 : Int) = 32) := by omega
          have n9 : ¬ ((d.1 : Int) = 9) := by omega
          clear hit ha hd1 hd2
          go_wp2
          go_ret
          exact ⟨ret_num (by rw [HE.out]), HI2.out.far⟩
    · have HE : Hid (s.size = G) := Lib.hid (by
        have := hI.out.2
        rw [List.drop_eq_nil_of_le (by rw [bts_len]; omega)] at this
        simp [gapF] at this; omega)
      have HF := Lib.hid hI.out.1.far
      have hnx : ∀ ty, (Instr.next (.pointer (some ⟨w.heap.size, 0, none⟩)) true ty).run Tryz.prog wr = _ := fun ty => Lib.run_next_end_at wr w.heap.size s pos ty hit hlt
      clear hit hI
      go_wp2
      go_ret
      exact ⟨ret_num (by rw [HE.out]), HF.out⟩
end LW
end Go.Proofs.YtpbfgfadickgbaaGreatDoor
/-
  Contracts of the code's own parts of layer 5: isNumber, number (with strings.TrimPrefix and strconv.Atoi at a number of at most 13 letters), word. Condition: a word has at most 5000 letters.
-/
namespace Go.Proofs.YtpbfgfadickgbaaGreatDoor
open Go.RowKit
namespace LW
open LX
theorem trim_yes (s : ByteArray) (r : List UInt8) (h : bts s = 45 :: r) (w : World) : Calls Tryz.prog 102 #[.string s, .string ⟨#[45]⟩] w fun e w' => e = .returned (.string (str r)) ∧ w = w' := by
  have hsz : s.size = r.length + 1 := by rw [← bts_len, h]; rfl
  have h1 : 1 ≤ s.size := by omega
  have h2 : ((s.extract 0 1).toList == [45]) = true := by
    rw [show (1 : Nat) = 0 + 1 from rfl, cut_str, h, list_eq, bts_str]; simp
  have hx : s.extract 1 s.size = str r := by
    rw [hsz, show r.length + 1 = 1 + r.length from by omega, cut_str, h]; simp
  have HX := Lib.hid hx
  clear hx h hsz
  go_enter Tryz.func102, Tryz.ntmps102
  go_wp2
  go_ret
  exact ⟨ret_str (by rw [← HX.out]), rfl⟩
theorem trim_no (s : ByteArray) (h : ∀ r, bts s ≠ 45 :: r) (w : World) : Calls Tryz.prog 102 #[.string s, .string ⟨#[45]⟩] w fun e w' => e = .returned (.string s) ∧ w = w' := by
  by_cases h1 : 1 ≤ s.size
  · have h2 : ((s.extract 0 1).toList == [45]) = false := by
      rw [show (1 : Nat) = 0 + 1 from rfl, cut_str, list_eq, bts_str, List.drop_zero, beq_eq_false_iff_ne]
      intro e
      cases hb : bts s with
      | nil => rw [hb] at e; simp at e
      | cons c r => rw [hb] at e; simp at e; exact h r (by rw [hb, e])
    clear h
    go_enter Tryz.func102, Tryz.ntmps102
    go_wp2
    go_ret
    exact ⟨rfl, rfl⟩
  · clear h
    go_enter Tryz.func102, Tryz.ntmps102
    go_wp2
    go_ret
    exact ⟨rfl, rfl⟩
theorem trim_any (s : ByteArray) (w : World) : Calls Tryz.prog 102 #[.string s, .string ⟨#[45]⟩] w fun e w' => e = .returned (.string (str (unsign (bts s)))) ∧ w = w' := by
  cases hb : bts s with
  | nil =>
    have := trim_no s (by intro r; rw [hb]; simp) w
    rw [← str_bts s, hb] at this
    rw [← str_bts s, hb]; exact this
  | cons c r =>
    by_cases hc : c = 45
    · subst hc; exact trim_yes s r hb w
    · have := trim_no s (by intro r2 e; rw [hb] at e; injection e with e; exact hc e) w
      rw [← str_bts s, hb] at this
      rw [← str_bts s, hb, show unsign (c :: r) = c :: r by unfold unsign; simp [hc]]; exact this
theorem dig_n (c : UInt8) : dig c = (decide ((48 : Int) ≤ (c.toNat : Int)) && decide ((c.toNat : Int) ≤ 57)) := by
  unfold dig
  congr 1 <;> (apply Bool.eq_iff_iff.2; simp; omega)
set_option maxHeartbeats 2000000 in
theorem isNumber_any (s : ByteArray) (w : World) : Calls Tryz.prog 74 #[.string s] w fun e w' => e = .returned (.bool (LX.number (bts s))) ∧ MM.Far [] w w' := by
  have HT := Lib.hid (trim_any s)
  have hres : LX.number (bts s) = ((bts (str (unsign (bts s)))).all dig && decide (0 < (str (unsign (bts s))).size)) := by rw [bts_str, str_size]; rfl
  rw [hres]
  clear hres
  generalize str (unsign (bts s)) = x at HT ⊢
  have HB := Lib.hid (It.begin w x)
  obtain ⟨n, hn⟩ : ∃ n, x.size = n := ⟨_, rfl⟩
  rw [hn]
  go_enter Tryz.func74, Tryz.ntmps74
  go_wp2_with (go_at_call 102; refine (HT.out _).mono ?_; rintro e w2 ⟨rfl, rfl⟩)
  go_loopw [] (fun wr => ∃ pos : Nat, pos ≤ n ∧ Hid (It w x pos wr ∧ Digs x pos)) (fun wr => n - wr.iterPos w.heap.size)
  case atStart => exact ⟨0, by omega, Lib.hid ⟨HB.out, fun j h hj => absurd hj (by omega)⟩⟩
  case round =>
    obtain ⟨pos, hp, hI⟩ := hrel
    have hit := hI.out.1.it
    have HP := Lib.hid hI.out.1.pos
    by_cases hlt : pos < x.size
    · by_cases ha : (x[pos]).toNat < 128
      · have hnx : ∀ ty, (Instr.next (.pointer (some ⟨w.heap.size, 0, none⟩)) true ty).run Tryz.prog wr = _ := fun ty => Lib.run_next_ascii_at wr w.heap.size x pos ty hit hlt ha
        have HI2 := Lib.hid (hI.out.1.next (pos + 1))
        have hL := isDigit_any ((x[pos]).toNat : Int)
        rw [← dig_n] at hL
        by_cases hg : dig x[pos] = true
        · rw [hg] at hL
          have HD := Lib.hid (digs_step hI.out.2 hlt hg)
          have HL := Lib.hid hL
          clear hL hit ha hI hg
          go_wp2_with (go_at_call 100; refine (HL.out _).mono ?_; rintro e w2 ⟨rfl, rfl⟩)
          go_roundw
          case rel => exact ⟨pos + 1, by omega, Lib.hid ⟨HI2.out, HD.out⟩⟩
          case measure => rw [HI2.out.pos, HP.out]; omega
        · have hg : dig x[pos] = false := by simpa using hg
          rw [hg] at hL
          have HNo := Lib.hid (digs_no hlt hg)
          have HL := Lib.hid hL
          clear hL hit ha hI hg
          go_wp2_with (go_at_call 100; refine (HL.out _).mono ?_; rintro e w2 ⟨rfl, rfl⟩)
          go_ret
          exact ⟨ret_bool (by rw [HNo.out]; rfl), HI2.out.far⟩
      · have ha : 128 ≤ (x[pos]).toNat := by omega
        have hg : dig x[pos] = false := by unfold dig; simp; omega
        have hd := (decode_high x pos hlt ha).1
        have HNo := Lib.hid (digs_no hlt hg)
        have hnx : ∀ ty, (Instr.next (.pointer (some ⟨w.heap.size, 0, none⟩)) true ty).run Tryz.prog wr = _ := fun ty => Lib.run_next_any_at wr w.heap.size x pos ty hit hlt
        have HI2 := Lib.hid (hI.out.1.next (pos + (Utf8.decode x pos).2))
        generalize Utf8.decode x pos = d at *
        have hL := isDigit_any (d.1 : Int)
        rw [show decide ((d.1 : Int) ≤ 57) = false by simp; omega, Bool.and_false] at hL
        have HL := Lib.hid hL
        clear hL hit ha hI hg hd
        go_wp2_with (go_at_call 100; refine (HL.out _).mono ?_; rintro e w2 ⟨rfl, rfl⟩)
        go_ret
        exact ⟨ret_bool (by rw [HNo.out]; rfl), HI2.out.far⟩
    · have hpn : pos = n := by omega
      have HA := Lib.hid (digs_all (s := x) (by rw [hn, ← hpn]; exact hI.out.2))
      have HF := Lib.hid hI.out.1.far
      have hnx : ∀ ty, (Instr.next (.pointer (some ⟨w.heap.size, 0, none⟩)) true ty).run Tryz.prog wr = _ := fun ty => Lib.run_next_end_at wr w.heap.size x pos ty hit hlt
      clear hit hI hpn
      by_cases h0 : n = 0
      · have e1 : (x.toList == []) = true := by
          rw [list_eq, beq_iff_eq]; exact List.eq_nil_of_length_eq_zero (by rw [bts_len]; omega)
        have HZ := Lib.hid h0
        clear h0 hn
        go_wp2
        go_ret
        exact ⟨ret_bool (by rw [HZ.out]; simp), HF.out⟩
      · have e1 : (x.toList == []) = false := by
          rw [list_eq, beq_eq_false_iff_ne]; intro e
          have := bts_len x
          rw [e] at this; simp at this; omega
        have HZ := Lib.hid (show 0 < n by omega)
        clear h0 hn
        go_wp2
        go_ret
        exact ⟨ret_bool (by rw [HA.out]; simp [HZ.out]), HF.out⟩
theorem far_bytes (w : World) (e : TypeId) (s : ByteArray) : MM.Far [] w (Lib.bytesWorld w e s) := ⟨rfl, rfl, rfl, by rw [Lib.bytesWorld_size]; omega, fun k hk _ => Lib.bytesWorld_at_old w e s k hk⟩
/-- The bytes of x, as a row that is new since w. -/
structure By (w w1 : World) (x : ByteArray) : Prop where
  far : MM.Far [] w w1
  cell : ∀ j (h : j < x.size), w1.cell? ⟨w.heap.size, j, none⟩ = some (.int .u8 ((x[j]'h).toNat : Int))
theorem By.of (w : World) (e : TypeId) (x : ByteArray) : By w (Lib.bytesWorld w e x) x := by
  refine ⟨far_bytes w e x, fun j h => ?_⟩
  rw [Lib.bytesWorld_cell w e x j h]
  have h1 := data_at x j h
  unfold bts at h1
  rw [List.getD_eq_getElem?_getD, h1]; rfl
set_option maxRecDepth 20000 in
set_option maxHeartbeats 4000000 in
theorem atoi_pos (x : ByteArray) (hp : 0 < x.size) (hn : x.size ≤ 13) (hd : (bts x).all dig = true) (w : World) : Calls Tryz.prog 115 #[.string x] w fun e w' => e = .returned (.tuple #[.int .i64 (LX.val (bts x)), .nilIface]) ∧ MM.Far [] w w' := by
  obtain ⟨g1, g2⟩ := dig_yes (dig_at hd hp)
  have h45 : (((x[0]'hp).toNat : Int) == 45) = false := by rw [beq_eq_false_iff_ne]; omega
  have h43 : (((x[0]'hp).toNat : Int) == 43) = false := by rw [beq_eq_false_iff_ne]; omega
  have HD := Lib.hid hd
  obtain ⟨n, hls⟩ : ∃ n, x.size = n := ⟨_, rfl⟩
  have hres : LX.val (bts x) = LX.val ((bts x).take n) := by rw [List.take_of_length_le]; rw [bts_len, hls]; exact Nat.le_refl _
  rw [hres]
  have HV0 := Lib.hid (show LX.val ((bts x).take 0) = 0 by rw [List.take_zero]; rfl)
  have hcv := Lib.run_convert_string_bytes (P := Tryz.prog) w 9 56 5 x (u := .string) Tryz.underlying9 Tryz.underlying56 Tryz.underlying5
  have HB := Lib.hid (By.of w 5 x)
  generalize Lib.bytesWorld w 5 x = w1 at hcv HB
  clear hd hres g1 g2
  go_enter Tryz.func115, Tryz.ntmps115
  go_wp2
  go_loop [6, 8, 49] (fun a c i => ∃ k : Nat, k ≤ n ∧ a = .int .i64 (LX.val ((bts x).take k)) ∧ i = .int .i64 (k : Int)) (fun a c i => n - (intOf i).toNat)
  case atStart => exact ⟨0, by omega, by rw [HV0.out], rfl⟩
  case round =>
    obtain ⟨k, hk, rfl, rfl⟩ := hrel
    by_cases hlt : k < n
    · have hks : k < x.size := by omega
      have hcell := HB.out.cell k hks
      have HS := Lib.hid (val_step hks)
      obtain ⟨b1, b2⟩ := val_take (k := k) HD.out (by omega)
      obtain ⟨g1, g2⟩ := dig_yes (dig_at HD.out hks)
      generalize LX.val ((bts x).take k) = v at *
      obtain ⟨q, hq⟩ : ∃ q : Nat, (x[k]).toNat = q := ⟨_, rfl⟩
      rw [hq] at g1 g2 hcell
      have HQ := Lib.hid hq
      clear hq h45 h43
      go_wp2
      go_round
      case rel => exact ⟨k + 1, by omega, by rw [HS.out, HQ.out] <;> go_num, by go_num⟩
      case measure => simp [intOf]; omega
    · obtain rfl : k = n := by omega
      go_wp2
      go_ret2
      exact ⟨rfl, HB.out.far⟩
set_option maxRecDepth 20000 in
set_option maxHeartbeats 4000000 in
theorem atoi_neg (s x : ByteArray) (hp : 0 < s.size) (h45 : (((s[0]'hp).toNat : Int) == 45) = true) (hx : s.extract 1 s.size = x) (hsx : s.size = x.size + 1) (hp2 : 0 < x.size) (hn : s.size ≤ 13) (hd : (bts x).all dig = true) (w : World) : Calls Tryz.prog 115 #[.string s] w fun e w' => e = .returned (.tuple #[.int .i64 (- LX.val (bts x)), .nilIface]) ∧ MM.Far [] w w' := by
  have HD := Lib.hid hd
  obtain ⟨n, hls⟩ : ∃ n, x.size = n := ⟨_, rfl⟩
  have hres : LX.val (bts x) = LX.val ((bts x).take n) := by rw [List.take_of_length_le]; rw [bts_len, hls]; exact Nat.le_refl _
  rw [hres]
  have HV0 := Lib.hid (show LX.val ((bts x).take 0) = 0 by rw [List.take_zero]; rfl)
  have hsl : ∀ W, (Instr.slice 9 (.string s) (some (.int .i64 1)) none none).run Tryz.prog W = .ok (.string x) W := fun W => by
    rw [run_slice_string_from_if W 9 s .i64 _ Tryz.underlying9, if_pos ⟨by omega, by omega⟩, ← hx]; rfl
  have hcv := Lib.run_convert_string_bytes (P := Tryz.prog) w 9 56 5 x (u := .string) Tryz.underlying9 Tryz.underlying56 Tryz.underlying5
  have HB := Lib.hid (By.of w 5 x)
  generalize Lib.bytesWorld w 5 x = w1 at hcv HB
  have hs1 : 1 ≤ s.size := hp
  have hs9 : s.size ≤ 13 := hn
  clear hd hres hx
  have HSX := Lib.hid hsx
  have hm : n ≤ 12 := by omega
  clear hsx
  go_enter Tryz.func115, Tryz.ntmps115
  go_wp2
  go_loop [6, 8, 49] (fun a c i => ∃ k : Nat, k ≤ n ∧ a = .int .i64 (LX.val ((bts x).take k)) ∧ i = .int .i64 (k : Int)) (fun a c i => n - (intOf i).toNat)
  case atStart => exact ⟨0, by omega, by rw [HV0.out], rfl⟩
  case round =>
    obtain ⟨k, hk, rfl, rfl⟩ := hrel
    by_cases hlt : k < n
    · have hks : k < x.size := by omega
      have hcell := HB.out.cell k hks
      have HS := Lib.hid (val_step hks)
      obtain ⟨b1, b2⟩ := val_take (k := k) HD.out (by omega)
      obtain ⟨g1, g2⟩ := dig_yes (dig_at HD.out hks)
      generalize LX.val ((bts x).take k) = v at *
      obtain ⟨q, hq⟩ : ∃ q : Nat, (x[k]).toNat = q := ⟨_, rfl⟩
      rw [hq] at g1 g2 hcell
      have HQ := Lib.hid hq
      clear hq h45
      go_wp2
      go_round
      case rel => exact ⟨k + 1, by omega, by rw [HS.out, HQ.out] <;> go_num, by go_num⟩
      case measure => simp [intOf]; omega
    · obtain rfl : k = n := by omega
      obtain ⟨b1, b2⟩ := val_take (k := k) HD.out (by omega)
      go_wp2
      go_ret2
      exact ⟨rfl, HB.out.far⟩
theorem atoi_in (s : ByteArray) (hn : s.size ≤ 13) (hd : LX.number (bts s) = true) (w : World) : Calls Tryz.prog 115 #[.string s] w fun e w' => e = .returned (.tuple #[.int .i64 (LX.value (bts s)), .nilIface]) ∧ MM.Far [] w w' := by
  cases hb : bts s with
  | nil => rw [hb] at hd; cases hd
  | cons c r =>
    rw [hb] at hd
    have hln : r.length + 1 = s.size := by rw [← bts_len, hb]; rfl
    have hp : 0 < s.size := by omega
    have hd0 := data_at s 0 hp
    rw [hb] at hd0
    have hc0 : c = s[0] := by simpa using hd0
    by_cases hc : c = 45
    · have h1 : (((s[0]'hp).toNat : Int) == 45) = true := by rw [← hc0, hc]; rfl
      have hx : s.extract 1 s.size = str r := by
        rw [← hln, show r.length + 1 = 1 + r.length from by omega, cut_str, hb]; simp
      have e2 : LX.number (c :: r) = (r.all dig && decide (0 < r.length)) := by subst hc; rfl
      rw [e2, Bool.and_eq_true] at hd
      have e3 : LX.value (c :: r) = - LX.val r := by subst hc; rfl
      rw [e3]
      have := atoi_neg s (str r) hp h1 hx (by rw [str_size]; omega) (by rw [str_size]; simpa using hd.2) hn (by rw [bts_str]; exact hd.1) w
      rw [bts_str] at this; exact this
    · have e2 : LX.number (c :: r) = ((c :: r).all dig && decide (0 < (c :: r).length)) := by unfold LX.number unsign; simp only [if_neg hc]
      rw [e2, Bool.and_eq_true] at hd
      have e3 : LX.value (c :: r) = LX.val (c :: r) := by unfold LX.value; simp only [if_neg hc]
      rw [e3, ← hb]
      exact atoi_pos s hp hn (by rw [hb]; exact hd.1) w
theorem atoi_any (s : ByteArray) (hn : s.size ≤ 13) (hd : LX.number (bts s) = true) (w : World) : Calls Tryz.prog 103 #[.string s] w fun e w' => e = .returned (.tuple #[.int .i64 (LX.value (bts s)), .nilIface]) ∧ MM.Far [] w w' := by
  have H := Lib.hid (atoi_in s hn hd)
  generalize LX.value (bts s) = v at *
  clear hd
  go_enter Tryz.func103, Tryz.ntmps103
  go_wp2_with (go_at_call 115; refine (H.out _).mono ?_; rintro e w2 ⟨rfl, hF⟩; have HF := Lib.hid hF; clear hF)
  go_ret2
  exact ⟨rfl, HF.out⟩
/-- What the code's word gives: a token without its place, or what is wrong. -/
def wordV : St → Value
  | .tok kd n s _ => .tuple #[tokV kd 0 n s, .int .i64 0]
  | .err e => .tuple #[tokV 0 0 0 emp, .int .i64 e]
  | .skip _ => .bool false
/-- A token's cells, in block b, to be read and written. -/
structure Cel (w : World) (b : Nat) (t : Tk) : Prop where
  c0 : w.cell? ⟨b, 0, none⟩ = some (.int .u8 t.kind)
  c1 : w.cell? ⟨b, 1, none⟩ = some (.int .i64 t.at_)
  c2 : w.cell? ⟨b, 2, none⟩ = some (.int .i64 t.n)
  c3 : w.cell? ⟨b, 3, none⟩ = some (.string t.s)
  f0 : w.frozen? ⟨b, 0, none⟩ = false
  f1 : w.frozen? ⟨b, 1, none⟩ = false
  f2 : w.frozen? ⟨b, 2, none⟩ = false
  f3 : w.frozen? ⟨b, 3, none⟩ = false
theorem Cel.of {w : World} {b : Nat} {T : TypeId} {t : Tk} (h : MM.Row w b T (cellsT t)) : Cel w b t :=
  ⟨h.at rfl, h.at rfl, h.at rfl, h.at rfl, h.frozen 0, h.frozen 1, h.frozen 2, h.frozen 3⟩
theorem Cel.new (w : World) (T : TypeId) (w2 : World) (F : MM.Far [] (w.alloc (.cells #[.int .u8 0, .int .i64 0, .int .i64 0, .string ⟨#[]⟩] T)) w2) : Cel w2 w.heap.size ⟨0, 0, 0, emp⟩ :=
  Cel.of ((MM.Row.new w T (cellsT ⟨0, 0, 0, emp⟩)).far F (by simp))
theorem Row.cel {w : World} {b : Nat} {T : TypeId} {x0 x1 x2 x3 : Value} {w' : World} {kd a n : Int} {s : ByteArray} (h : MM.Row w b T [x0, x1, x2, x3]) (e : w' = (((w.setCell ⟨b, 0, none⟩ (.int .u8 kd)).setCell ⟨b, 1, none⟩ (.int .i64 a)).setCell ⟨b, 2, none⟩ (.int .i64 n)).setCell ⟨b, 3, none⟩ (.string s)) : MM.Row w' b T (cellsT ⟨kd, a, n, s⟩) := by
  subst e
  exact (((h.put 0 _).put 1 _).put 2 _).put 3 _
/-- A token is written into the call's own first block. -/
theorem Cel.set {w w2 : World} {T : TypeId} {t : Tk} (R : MM.Row w2 w.heap.size T (cellsT t)) (F : MM.Far [] w w2) (kd a n : Int) (s : ByteArray) :
    Cel ((((w2.setCell ⟨w.heap.size, 0, none⟩ (.int .u8 kd)).setCell ⟨w.heap.size, 1, none⟩ (.int .i64 a)).setCell ⟨w.heap.size, 2, none⟩ (.int .i64 n)).setCell ⟨w.heap.size, 3, none⟩ (.string s)) w.heap.size ⟨kd, a, n, s⟩ ∧
    MM.Far [] w ((((w2.setCell ⟨w.heap.size, 0, none⟩ (.int .u8 kd)).setCell ⟨w.heap.size, 1, none⟩ (.int .i64 a)).setCell ⟨w.heap.size, 2, none⟩ (.int .i64 n)).setCell ⟨w.heap.size, 3, none⟩ (.string s)) := by
  refine ⟨Cel.of (Row.cel R rfl), ?_⟩
  exact (((F.setCell (fun h => absurd h (Nat.lt_irrefl _)) _).setCell (fun h => absurd h (Nat.lt_irrefl _)) _).setCell (fun h => absurd h (Nat.lt_irrefl _)) _).setCell (fun h => absurd h (Nat.lt_irrefl _)) _
theorem new_row (w : World) (T : TypeId) (w2 : World) (F : MM.Far [] (w.alloc (.cells #[.int .u8 0, .int .i64 0, .int .i64 0, .string ⟨#[]⟩] T)) w2) : MM.Row w2 w.heap.size T (cellsT ⟨0, 0, 0, emp⟩) ∧ MM.Far [] w w2 :=
  ⟨(MM.Row.new w T (cellsT ⟨0, 0, 0, emp⟩)).far F (by simp), ((MM.Far.refl [] w).alloc _).trans F (by simp)⟩
set_option maxHeartbeats 1000000 in
theorem cnumber_any (s : ByteArray) (hd : LX.number (bts s) = true) (w : World) : Calls Tryz.prog 75 #[.string s] w fun e w' => e = .returned (wordV (LX.one (bts s))) ∧ MM.Far [] w w' := by
  have hlen := bts_len s
  have hb' : ¬ (LX.number (bts s) = false) := by rw [hd]; decide
  by_cases h13 : 13 < s.size
  · have e1 : LX.one (bts s) = .err 51 := by unfold LX.one; rw [if_neg hb', if_pos (by omega)]
    rw [e1]
    clear e1 hd hb' hlen
    go_enter Tryz.func75, Tryz.ntmps75
    go_wp2
    exact bodyPost_ret (v := .tuple #[.agg #[.int .u8 0, .int .i64 0, .int .i64 0, .string ⟨#[]⟩], .int .i64 51]) (by simp [results, Tryz.results75, go_sem]) rfl ⟨rfl, (MM.Far.refl _ _).alloc _⟩
  · have hV := Lib.hid (atoi_any s (by omega) hd)
    obtain ⟨v, hv⟩ : ∃ v, LX.value (bts s) = v := ⟨_, rfl⟩
    rw [hv] at hV
    by_cases h1 : v ≤ -1099511627776
    · have e1 : LX.one (bts s) = .err 51 := by unfold LX.one; rw [if_neg hb', if_neg (by omega), hv, if_pos (.inl h1)]
      rw [e1]
      clear e1 hd hb' hlen hv
      go_enter Tryz.func75, Tryz.ntmps75
      go_wp2_with (go_at_call 103; refine (hV.out _).mono ?_; rintro e w2 ⟨rfl, hF⟩; obtain ⟨c0, c1, c2, c3, f0, f1, f2, f3⟩ := Cel.new w _ w2 hF; have HF := Lib.hid hF; clear hF; simp only at c0 c1 c2 c3)
      obtain ⟨hR, hF⟩ := new_row w _ w2 HF.out
      have HS := Cel.set hR hF 0 0 0 emp
      clear c0 c1 c2 c3 f0 f1 f2 f3 HF
      rw [show emp = ⟨#[]⟩ from rfl] at HS
      generalize ((((w2.setCell ⟨w.heap.size, 0, none⟩ (.int .u8 0)).setCell ⟨w.heap.size, 1, none⟩ (.int .i64 0)).setCell ⟨w.heap.size, 2, none⟩ (.int .i64 0)).setCell ⟨w.heap.size, 3, none⟩ (.string ⟨#[]⟩)) = w3 at HS ⊢
      obtain ⟨⟨c0, c1, c2, c3, _, _, _, _⟩, hF3⟩ := HS
      exact bodyPost_ret (v := .tuple #[.agg #[.int .u8 0, .int .i64 0, .int .i64 0, .string ⟨#[]⟩], .int .i64 51]) (by simp [results, Tryz.results75, go_sem, c0, c1, c2, c3]) rfl ⟨rfl, hF3⟩
    · by_cases h2 : 1099511627776 ≤ v
      · have e1 : LX.one (bts s) = .err 51 := by unfold LX.one; rw [if_neg hb', if_neg (by omega), hv, if_pos (.inr h2)]
        rw [e1]
        clear e1 hd hb' hlen hv
        go_enter Tryz.func75, Tryz.ntmps75
        go_wp2_with (go_at_call 103; refine (hV.out _).mono ?_; rintro e w2 ⟨rfl, hF⟩; obtain ⟨c0, c1, c2, c3, f0, f1, f2, f3⟩ := Cel.new w _ w2 hF; have HF := Lib.hid hF; clear hF; simp only at c0 c1 c2 c3)
        obtain ⟨hR, hF⟩ := new_row w _ w2 HF.out
        have HS := Cel.set hR hF 0 0 0 emp
        clear c0 c1 c2 c3 f0 f1 f2 f3 HF
        rw [show emp = ⟨#[]⟩ from rfl] at HS
        generalize ((((w2.setCell ⟨w.heap.size, 0, none⟩ (.int .u8 0)).setCell ⟨w.heap.size, 1, none⟩ (.int .i64 0)).setCell ⟨w.heap.size, 2, none⟩ (.int .i64 0)).setCell ⟨w.heap.size, 3, none⟩ (.string ⟨#[]⟩)) = w3 at HS ⊢
        obtain ⟨⟨c0, c1, c2, c3, _, _, _, _⟩, hF3⟩ := HS
        exact bodyPost_ret (v := .tuple #[.agg #[.int .u8 0, .int .i64 0, .int .i64 0, .string ⟨#[]⟩], .int .i64 51]) (by simp [results, Tryz.results75, go_sem, c0, c1, c2, c3]) rfl ⟨rfl, hF3⟩
      · have e1 : LX.one (bts s) = .tok 4 v emp (bts s).length := by unfold LX.one; rw [if_neg hb', if_neg (by omega), hv, if_neg (by omega)]
        rw [e1]
        clear e1 hd hb' hlen hv
        go_enter Tryz.func75, Tryz.ntmps75
        go_wp2_with (go_at_call 103; refine (hV.out _).mono ?_; rintro e w2 ⟨rfl, hF⟩; obtain ⟨c0, c1, c2, c3, f0, f1, f2, f3⟩ := Cel.new w _ w2 hF; have HF := Lib.hid hF; clear hF; simp only at c0 c1 c2 c3)
        obtain ⟨hR, hF⟩ := new_row w _ w2 HF.out
        have HS := Cel.set hR hF 4 0 v emp
        clear c0 c1 c2 c3 f0 f1 f2 f3 HF
        rw [show emp = ⟨#[]⟩ from rfl] at HS
        generalize ((((w2.setCell ⟨w.heap.size, 0, none⟩ (.int .u8 4)).setCell ⟨w.heap.size, 1, none⟩ (.int .i64 0)).setCell ⟨w.heap.size, 2, none⟩ (.int .i64 v)).setCell ⟨w.heap.size, 3, none⟩ (.string ⟨#[]⟩)) = w3 at HS ⊢
        obtain ⟨⟨c0, c1, c2, c3, _, _, _, _⟩, hF3⟩ := HS
        exact bodyPost_ret (v := .tuple #[.agg #[.int .u8 4, .int .i64 0, .int .i64 v, .string ⟨#[]⟩], .int .i64 0]) (by simp [results, Tryz.results75, go_sem, c0, c1, c2, c3]) rfl ⟨rfl, hF3⟩
set_option maxHeartbeats 1000000 in
theorem cword_any (s : ByteArray) (hm : s.size ≤ 5000) (w : World) : Calls Tryz.prog 40 #[.string s] w fun e w' => e = .returned (wordV (LX.one (bts s))) ∧ MM.Far [] w w' := by
  have hN := Lib.hid (isNumber_any s)
  have hlen := bts_len s
  by_cases hb : LX.number (bts s) = true
  · rw [hb] at hN
    have hC := cnumber_any s hb
    cases h9 : LX.one (bts s) with
    | skip k => exact (one_skip h9).elim
    | err x =>
      rw [h9] at hC
      have HC : Hid (∀ w, Calls Tryz.prog 75 #[.string s] w fun e w' => e = .returned (.tuple #[.agg #[.int .u8 0, .int .i64 0, .int .i64 0, .string ⟨#[]⟩], .int .i64 x]) ∧ MM.Far [] w w') := Lib.hid hC
      clear hC h9 hb hlen
      go_enter Tryz.func40, Tryz.ntmps40
      go_wp2_with (first | (go_at_call 74; refine (hN.out _).mono ?_; rintro e w1 ⟨rfl, hF1⟩; have HF1 := Lib.hid hF1; clear hF1) | (go_at_call 75; refine (HC.out _).mono ?_; rintro e w2 ⟨rfl, hF2⟩; have hF := HF1.out.trans hF2 (by simp); clear HF1 hF2; obtain ⟨c0, c1, c2, c3, f0, f1, f2, f3⟩ := Cel.new w _ w2 hF; have HF := Lib.hid hF; clear hF; simp only at c0 c1 c2 c3))
      obtain ⟨hR, hF⟩ := new_row w _ w2 HF.out
      have HS := Cel.set hR hF 0 0 0 emp
      clear c0 c1 c2 c3 f0 f1 f2 f3 HF
      rw [show emp = ⟨#[]⟩ from rfl] at HS
      generalize ((((w2.setCell ⟨w.heap.size, 0, none⟩ (.int .u8 0)).setCell ⟨w.heap.size, 1, none⟩ (.int .i64 0)).setCell ⟨w.heap.size, 2, none⟩ (.int .i64 0)).setCell ⟨w.heap.size, 3, none⟩ (.string ⟨#[]⟩)) = w3 at HS ⊢
      obtain ⟨⟨c0, c1, c2, c3, _, _, _, _⟩, hF3⟩ := HS
      exact bodyPost_ret (v := .tuple #[.agg #[.int .u8 0, .int .i64 0, .int .i64 0, .string ⟨#[]⟩], .int .i64 x]) (by simp [results, Tryz.results40, go_sem, c0, c1, c2, c3]) rfl ⟨rfl, hF3⟩
    | tok kd n sv k =>
      rw [h9] at hC
      have HC : Hid (∀ w, Calls Tryz.prog 75 #[.string s] w fun e w' => e = .returned (.tuple #[.agg #[.int .u8 kd, .int .i64 0, .int .i64 n, .string sv], .int .i64 0]) ∧ MM.Far [] w w') := Lib.hid hC
      clear hC h9 hb hlen
      go_enter Tryz.func40, Tryz.ntmps40
      go_wp2_with (first | (go_at_call 74; refine (hN.out _).mono ?_; rintro e w1 ⟨rfl, hF1⟩; have HF1 := Lib.hid hF1; clear hF1) | (go_at_call 75; refine (HC.out _).mono ?_; rintro e w2 ⟨rfl, hF2⟩; have hF := HF1.out.trans hF2 (by simp); clear HF1 hF2; obtain ⟨c0, c1, c2, c3, f0, f1, f2, f3⟩ := Cel.new w _ w2 hF; have HF := Lib.hid hF; clear hF; simp only at c0 c1 c2 c3))
      obtain ⟨hR, hF⟩ := new_row w _ w2 HF.out
      have HS := Cel.set hR hF kd 0 n sv
      clear c0 c1 c2 c3 f0 f1 f2 f3 HF
      generalize ((((w2.setCell ⟨w.heap.size, 0, none⟩ (.int .u8 kd)).setCell ⟨w.heap.size, 1, none⟩ (.int .i64 0)).setCell ⟨w.heap.size, 2, none⟩ (.int .i64 n)).setCell ⟨w.heap.size, 3, none⟩ (.string sv)) = w3 at HS ⊢
      obtain ⟨⟨c0, c1, c2, c3, _, _, _, _⟩, hF3⟩ := HS
      exact bodyPost_ret (v := .tuple #[.agg #[.int .u8 kd, .int .i64 0, .int .i64 n, .string sv], .int .i64 0]) (by simp [results, Tryz.results40, go_sem, c0, c1, c2, c3]) rfl ⟨rfl, hF3⟩
  · have hb : LX.number (bts s) = false := by simpa using hb
    rw [hb] at hN
    by_cases h32 : 32 < s.size
    · have e1 : LX.one (bts s) = .err 3 := by unfold LX.one; rw [if_pos hb, hlen, if_pos h32]
      rw [e1]
      clear e1 hb hlen
      go_enter Tryz.func40, Tryz.ntmps40
      go_wp2_with (go_at_call 74; refine (hN.out _).mono ?_; rintro e w2 ⟨rfl, hF⟩; obtain ⟨c0, c1, c2, c3, f0, f1, f2, f3⟩ := Cel.new w _ w2 hF; have HF := Lib.hid hF; clear hF; simp only at c0 c1 c2 c3)
      obtain ⟨hR, hF⟩ := new_row w _ w2 HF.out
      have HS := Cel.set hR hF 0 0 0 emp
      clear c0 c1 c2 c3 f0 f1 f2 f3 HF
      rw [show emp = ⟨#[]⟩ from rfl] at HS
      generalize ((((w2.setCell ⟨w.heap.size, 0, none⟩ (.int .u8 0)).setCell ⟨w.heap.size, 1, none⟩ (.int .i64 0)).setCell ⟨w.heap.size, 2, none⟩ (.int .i64 0)).setCell ⟨w.heap.size, 3, none⟩ (.string ⟨#[]⟩)) = w3 at HS ⊢
      obtain ⟨⟨c0, c1, c2, c3, _, _, _, _⟩, hF3⟩ := HS
      exact bodyPost_ret (v := .tuple #[.agg #[.int .u8 0, .int .i64 0, .int .i64 0, .string ⟨#[]⟩], .int .i64 3]) (by simp [results, Tryz.results40, go_sem, c0, c1, c2, c3]) rfl ⟨rfl, hF3⟩
    · have e1 : LX.one (bts s) = .tok 6 0 s (bts s).length := by unfold LX.one; rw [if_pos hb, hlen, if_neg h32, str_bts]
      rw [e1]
      clear e1 hb hlen
      go_enter Tryz.func40, Tryz.ntmps40
      go_wp2_with (first | (go_at_call 74; refine (hN.out _).mono ?_; rintro e w1 ⟨rfl, hF1⟩; have HF1 := Lib.hid hF1; clear hF1) | (go_at_call 70; refine (MC.clone_any s _ (by omega)).mono ?_; rintro e w2 ⟨rfl, hF2⟩; have hF := HF1.out.trans hF2 (by simp); clear HF1 hF2; obtain ⟨c0, c1, c2, c3, f0, f1, f2, f3⟩ := Cel.new w _ w2 hF; have HF := Lib.hid hF; clear hF; simp only at c0 c1 c2 c3))
      obtain ⟨hR, hF⟩ := new_row w _ w2 HF.out
      have HS := Cel.set hR hF 6 0 0 s
      clear c0 c1 c2 c3 f0 f1 f2 f3 HF
      generalize ((((w2.setCell ⟨w.heap.size, 0, none⟩ (.int .u8 6)).setCell ⟨w.heap.size, 1, none⟩ (.int .i64 0)).setCell ⟨w.heap.size, 2, none⟩ (.int .i64 0)).setCell ⟨w.heap.size, 3, none⟩ (.string s)) = w3 at HS ⊢
      obtain ⟨⟨c0, c1, c2, c3, _, _, _, _⟩, hF3⟩ := HS
      exact bodyPost_ret (v := .tuple #[.agg #[.int .u8 6, .int .i64 0, .int .i64 0, .string s], .int .i64 0]) (by simp [results, Tryz.results40, go_sem, c0, c1, c2, c3]) rfl ⟨rfl, hF3⟩
end LW
end Go.Proofs.YtpbfgfadickgbaaGreatDoor
/-
  Contracts of the code's own parts of layer 5: boolean, first: the token that a text begins with. Condition: a text is no longer than 5000 bytes.
-/
namespace Go.Proofs.YtpbfgfadickgbaaGreatDoor
open Go.RowKit
namespace LW
open LX
/-- What the code's first gives: a token without its place, and how many bytes it has; or what is wrong. -/
def FirstP (w : World) (x : St) (e : Ending) (w' : World) : Prop :=
  MM.Far [] w w' ∧ match x with
  | .tok kd n s k => e = .returned (.tuple #[tokV kd 0 n s, .int .i64 (k : Int), .int .i64 0])
  | .err x => ∃ c : Int, e = .returned (.tuple #[tokV 0 0 0 emp, .int .i64 c, .int .i64 x])
  | .skip _ => False
theorem slice_one (s x : ByteArray) (h : s.extract 1 s.size = x) (h1 : 1 ≤ s.size) (hm : s.size ≤ 5000) (W : World) : (Instr.slice 9 (.string s) (some (.int .i64 1)) none none).run Tryz.prog W = .ok (.string x) W := by
  rw [run_slice_string_from_if W 9 s .i64 _ Tryz.underlying9, if_pos ⟨by omega, by omega⟩, ← h]; rfl
set_option maxHeartbeats 2000000 in
theorem boolean_any (s : ByteArray) (r : List UInt8) (hb : bts s = 35 :: r) (hm : s.size ≤ 5000) (w : World) : Calls Tryz.prog 38 #[.string s] w (FirstP w (if LX.word r = [116] then .tok 5 1 emp 2 else if LX.word r = [102] then .tok 5 0 emp 2 else .err 50)) := by
  have hln : r.length + 1 = s.size := by rw [← bts_len, hb]; rfl
  have hx : s.extract 1 s.size = str r := by
    rw [← hln, show r.length + 1 = 1 + r.length from by omega, cut_str, hb]; simp
  have hs1 : 1 ≤ s.size := by omega
  have hsl := slice_one s _ hx hs1 hm
  have hC := chars_any (str r)
  rw [bts_str] at hC
  have hxs := str_size r
  have hxb := bts_str r
  have hwl := word_le r
  generalize str r = x at hsl hC hxs hxb
  clear hx hb hln
  obtain ⟨n, hn⟩ : ∃ n, (LX.word r).length = n := ⟨_, rfl⟩
  rw [hn] at hC
  by_cases h1 : n = 1
  · have h0 : 0 < x.size := by omega
    have hw : LX.word r = [x[0]'h0] := by
      cases hr : r with
      | nil => rw [hr] at hn; simp [LX.word] at hn; omega
      | cons c q =>
        have hd := data_at x 0 h0
        rw [hxb, hr] at hd
        have hc : c = x[0] := by simpa using hd
        rw [hr] at hn
        rw [← hc]
        unfold LX.word at hn ⊢
        by_cases hl : let_ c = true
        · simp only [List.takeWhile_cons, hl, if_true, List.length_cons] at hn ⊢
          rw [List.eq_nil_of_length_eq_zero (show (List.takeWhile let_ q).length = 0 by omega)]
        · simp only [List.takeWhile_cons, hl] at hn; simp at hn; omega
    rw [hw]
    obtain ⟨c, hc⟩ : ∃ c, x[0]'h0 = c := ⟨_, rfl⟩
    rw [hc]
    subst h1
    have HC : Hid (∀ w, Calls Tryz.prog 39 #[.string x] w fun e w' => e = .returned (.int .i64 1) ∧ MM.Far [] w w') := Lib.hid hC
    have HX := Lib.hid hxs
    clear hC hwl hw hn hxb hxs
    by_cases h116 : c = 116
    · have d1 : (((x[0]'h0).toNat : Int) == 116) = true := eq_yes (d := 116) (hc.trans h116) rfl
      rw [if_pos (by rw [h116])]
      clear hc h116
      go_enter Tryz.func38, Tryz.ntmps38
      go_wp2_with (go_at_call 39; refine (HC.out _).mono ?_; rintro e w2 ⟨rfl, hF⟩; obtain ⟨c0, c1, c2, c3, f0, f1, f2, f3⟩ := Cel.new w _ w2 hF; have HF := Lib.hid hF; clear hF; simp only at c0 c1 c2 c3)
      obtain ⟨hR, hF⟩ := new_row w _ w2 HF.out
      have HS := Cel.set hR hF 5 0 1 emp
      clear c0 c1 c2 c3 f0 f1 f2 f3 HF
      rw [show emp = ⟨#[]⟩ from rfl] at HS
      generalize ((((w2.setCell ⟨w.heap.size, 0, none⟩ (.int .u8 5)).setCell ⟨w.heap.size, 1, none⟩ (.int .i64 0)).setCell ⟨w.heap.size, 2, none⟩ (.int .i64 1)).setCell ⟨w.heap.size, 3, none⟩ (.string ⟨#[]⟩)) = w3 at HS ⊢
      obtain ⟨⟨c0, c1, c2, c3, _, _, _, _⟩, hF3⟩ := HS
      exact bodyPost_ret (v := .tuple #[.agg #[.int .u8 5, .int .i64 0, .int .i64 1, .string ⟨#[]⟩], .int .i64 2, .int .i64 0]) (by simp [results, Tryz.results38, go_sem, c0, c1, c2, c3]) rfl ⟨hF3, rfl⟩
    · have d1 : (((x[0]'h0).toNat : Int) == 116) = false := eq_no (d := 116) (fun e => h116 (hc.symm.trans e)) rfl
      rw [if_neg (by simpa using h116)]
      by_cases h102 : c = 102
      · have d2 : (((x[0]'h0).toNat : Int) == 102) = true := eq_yes (d := 102) (hc.trans h102) rfl
        rw [if_pos (by rw [h102])]
        clear hc h116 h102
        go_enter Tryz.func38, Tryz.ntmps38
        go_wp2_with (go_at_call 39; refine (HC.out _).mono ?_; rintro e w2 ⟨rfl, hF⟩; obtain ⟨c0, c1, c2, c3, f0, f1, f2, f3⟩ := Cel.new w _ w2 hF; have HF := Lib.hid hF; clear hF; simp only at c0 c1 c2 c3)
        obtain ⟨hR, hF⟩ := new_row w _ w2 HF.out
        have HS := Cel.set hR hF 5 0 0 emp
        clear c0 c1 c2 c3 f0 f1 f2 f3 HF
        rw [show emp = ⟨#[]⟩ from rfl] at HS
        generalize ((((w2.setCell ⟨w.heap.size, 0, none⟩ (.int .u8 5)).setCell ⟨w.heap.size, 1, none⟩ (.int .i64 0)).setCell ⟨w.heap.size, 2, none⟩ (.int .i64 0)).setCell ⟨w.heap.size, 3, none⟩ (.string ⟨#[]⟩)) = w3 at HS ⊢
        obtain ⟨⟨c0, c1, c2, c3, _, _, _, _⟩, hF3⟩ := HS
        exact bodyPost_ret (v := .tuple #[.agg #[.int .u8 5, .int .i64 0, .int .i64 0, .string ⟨#[]⟩], .int .i64 2, .int .i64 0]) (by simp [results, Tryz.results38, go_sem, c0, c1, c2, c3]) rfl ⟨hF3, rfl⟩
      · have d2 : (((x[0]'h0).toNat : Int) == 102) = false := eq_no (d := 102) (fun e => h102 (hc.symm.trans e)) rfl
        rw [if_neg (by simpa using h102)]
        clear hc h116 h102
        go_enter Tryz.func38, Tryz.ntmps38
        go_wp2_with (go_at_call 39; refine (HC.out _).mono ?_; rintro e w2 ⟨rfl, hF⟩; obtain ⟨c0, c1, c2, c3, f0, f1, f2, f3⟩ := Cel.new w _ w2 hF; have HF := Lib.hid hF; clear hF; simp only at c0 c1 c2 c3)
        obtain ⟨hR, hF⟩ := new_row w _ w2 HF.out
        have HS := Cel.set hR hF 0 0 0 emp
        clear c0 c1 c2 c3 f0 f1 f2 f3 HF
        rw [show emp = ⟨#[]⟩ from rfl] at HS
        generalize ((((w2.setCell ⟨w.heap.size, 0, none⟩ (.int .u8 0)).setCell ⟨w.heap.size, 1, none⟩ (.int .i64 0)).setCell ⟨w.heap.size, 2, none⟩ (.int .i64 0)).setCell ⟨w.heap.size, 3, none⟩ (.string ⟨#[]⟩)) = w3 at HS ⊢
        obtain ⟨⟨c0, c1, c2, c3, _, _, _, _⟩, hF3⟩ := HS
        exact bodyPost_ret (v := .tuple #[.agg #[.int .u8 0, .int .i64 0, .int .i64 0, .string ⟨#[]⟩], .int .i64 0, .int .i64 50]) (by simp [results, Tryz.results38, go_sem, c0, c1, c2, c3]) rfl ⟨hF3, 0, rfl⟩
  · rw [if_neg (fun e => h1 (by rw [← hn, e]; rfl)), if_neg (fun e => h1 (by rw [← hn, e]; rfl))]
    have d1 : ((n : Int) == 1) = false := by rw [beq_eq_false_iff_ne]; omega
    have HC := Lib.hid hC
    clear hC hwl hn hxb hxs h1
    go_enter Tryz.func38, Tryz.ntmps38
    go_wp2_with (go_at_call 39; refine (HC.out _).mono ?_; rintro e w2 ⟨rfl, hF⟩; obtain ⟨c0, c1, c2, c3, f0, f1, f2, f3⟩ := Cel.new w _ w2 hF; have HF := Lib.hid hF; clear hF; simp only at c0 c1 c2 c3)
    obtain ⟨hR, hF⟩ := new_row w _ w2 HF.out
    have HS := Cel.set hR hF 0 0 0 emp
    clear c0 c1 c2 c3 f0 f1 f2 f3 HF
    rw [show emp = ⟨#[]⟩ from rfl] at HS
    generalize ((((w2.setCell ⟨w.heap.size, 0, none⟩ (.int .u8 0)).setCell ⟨w.heap.size, 1, none⟩ (.int .i64 0)).setCell ⟨w.heap.size, 2, none⟩ (.int .i64 0)).setCell ⟨w.heap.size, 3, none⟩ (.string ⟨#[]⟩)) = w3 at HS ⊢
    obtain ⟨⟨c0, c1, c2, c3, _, _, _, _⟩, hF3⟩ := HS
    exact bodyPost_ret (v := .tuple #[.agg #[.int .u8 0, .int .i64 0, .int .i64 0, .string ⟨#[]⟩], .int .i64 0, .int .i64 50]) (by simp [results, Tryz.results38, go_sem, c0, c1, c2, c3]) rfl ⟨hF3, 0, rfl⟩
theorem mark_no {c : UInt8} (h : LX.mark c = 0) : c ≠ 40 ∧ c ≠ 41 ∧ c ≠ 39 := by
  unfold LX.mark at h
  refine ⟨?_, ?_, ?_⟩ <;> (rintro rfl; exact absurd h (by decide))
theorem mark_yes {c : UInt8} (h : LX.mark c ≠ 0) : c = 40 ∨ c = 41 ∨ c = 39 := by
  unfold LX.mark at h
  by_cases h1 : c = 40
  · exact .inl h1
  · by_cases h2 : c = 41
    · exact .inr (.inl h2)
    · by_cases h3 : c = 39
      · exact .inr (.inr h3)
      · rw [if_neg h1, if_neg h2, if_neg h3] at h; exact absurd rfl h
theorem slice_to (s x : ByteArray) (n : Nat) (h : s.extract 0 n = x) (h1 : n ≤ s.size) (W : World) : (Instr.slice 9 (.string s) none (some (.int .i64 (n : Int))) none).run Tryz.prog W = .ok (.string x) W := by
  subst h
  simp [Instr.slice, Instr.sliceBounds, Instr.sliceBound, asIntOf, run_underlying Tryz.underlying9, h1]
set_option maxHeartbeats 4000000 in
theorem first_any (s : ByteArray) (c : UInt8) (r : List UInt8) (hb : bts s = c :: r) (h1 : LX.blank c = false) (h2 : c ≠ 59) (hm : s.size ≤ 5000) (w : World) : Calls Tryz.prog 22 #[.string s] w (FirstP w (LX.step (c :: r))) := by
  have hln : r.length + 1 = s.size := by rw [← bts_len, hb]; rfl
  have hp : 0 < s.size := by omega
  have hd0 := data_at s 0 hp
  rw [hb] at hd0
  have hc : s[0]'hp = c := by simpa using hd0.symm
  by_cases h3 : LX.mark c = 0
  · obtain ⟨n1, n2, n3⟩ := mark_no h3
    have d1 : (((s[0]'hp).toNat : Int) == 40) = false := eq_no (d := 40) (fun e => n1 (hc.symm.trans e)) rfl
    have d2 : (((s[0]'hp).toNat : Int) == 41) = false := eq_no (d := 41) (fun e => n2 (hc.symm.trans e)) rfl
    have d3 : (((s[0]'hp).toNat : Int) == 39) = false := eq_no (d := 39) (fun e => n3 (hc.symm.trans e)) rfl
    by_cases h4 : c = 35
    · have d4 : (((s[0]'hp).toNat : Int) == 35) = true := eq_yes (d := 35) (hc.trans h4) rfl
      rw [step_hash h1 h2 h3 h4]
      have hB := boolean_any s r (by rw [hb, h4]) hm
      generalize hx : (if LX.word r = [116] then St.tok 5 1 emp 2 else if LX.word r = [102] then St.tok 5 0 emp 2 else St.err 50) = x at hB ⊢
      cases x with
      | skip k => split at hx <;> (try split at hx) <;> cases hx
      | err x =>
        have HB : Hid (∀ w, Calls Tryz.prog 38 #[.string s] w fun e w' => MM.Far [] w w' ∧ ∃ c : Int, e = .returned (.tuple #[.agg #[.int .u8 0, .int .i64 0, .int .i64 0, .string ⟨#[]⟩], .int .i64 c, .int .i64 x])) := Lib.hid hB
        clear hB hx hb h1 h2 h3 h4 n1 n2 n3 hc hd0 hln
        go_enter Tryz.func22, Tryz.ntmps22
        go_wp2_with (go_at_call 38; refine (HB.out _).mono ?_; rintro e w2 ⟨hF, cc, rfl⟩; obtain ⟨c0, c1, c2, c3, f0, f1, f2, f3⟩ := Cel.new w _ w2 hF; have HF := Lib.hid hF; clear hF; simp only at c0 c1 c2 c3)
        obtain ⟨hR, hF⟩ := new_row w _ w2 HF.out
        have HS := Cel.set hR hF 0 0 0 emp
        clear c0 c1 c2 c3 f0 f1 f2 f3 HF
        rw [show emp = ⟨#[]⟩ from rfl] at HS
        generalize ((((w2.setCell ⟨w.heap.size, 0, none⟩ (.int .u8 0)).setCell ⟨w.heap.size, 1, none⟩ (.int .i64 0)).setCell ⟨w.heap.size, 2, none⟩ (.int .i64 0)).setCell ⟨w.heap.size, 3, none⟩ (.string ⟨#[]⟩)) = w3 at HS ⊢
        obtain ⟨⟨c0, c1, c2, c3, _, _, _, _⟩, hF3⟩ := HS
        exact bodyPost_ret (v := .tuple #[.agg #[.int .u8 0, .int .i64 0, .int .i64 0, .string ⟨#[]⟩], .int .i64 cc, .int .i64 x]) (by simp [results, Tryz.results22, go_sem, c0, c1, c2, c3]) rfl ⟨hF3, cc, rfl⟩
      | tok kd n sv k =>
        have HB : Hid (∀ w, Calls Tryz.prog 38 #[.string s] w fun e w' => MM.Far [] w w' ∧ e = .returned (.tuple #[.agg #[.int .u8 kd, .int .i64 0, .int .i64 n, .string sv], .int .i64 (k : Int), .int .i64 0])) := Lib.hid hB
        clear hB hx hb h1 h2 h3 h4 n1 n2 n3 hc hd0 hln
        go_enter Tryz.func22, Tryz.ntmps22
        go_wp2_with (go_at_call 38; refine (HB.out _).mono ?_; rintro e w2 ⟨hF, rfl⟩; obtain ⟨c0, c1, c2, c3, f0, f1, f2, f3⟩ := Cel.new w _ w2 hF; have HF := Lib.hid hF; clear hF; simp only at c0 c1 c2 c3)
        obtain ⟨hR, hF⟩ := new_row w _ w2 HF.out
        have HS := Cel.set hR hF kd 0 n sv
        clear c0 c1 c2 c3 f0 f1 f2 f3 HF
        generalize ((((w2.setCell ⟨w.heap.size, 0, none⟩ (.int .u8 kd)).setCell ⟨w.heap.size, 1, none⟩ (.int .i64 0)).setCell ⟨w.heap.size, 2, none⟩ (.int .i64 n)).setCell ⟨w.heap.size, 3, none⟩ (.string sv)) = w3 at HS ⊢
        obtain ⟨⟨c0, c1, c2, c3, _, _, _, _⟩, hF3⟩ := HS
        exact bodyPost_ret (v := .tuple #[.agg #[.int .u8 kd, .int .i64 0, .int .i64 n, .string sv], .int .i64 (k : Int), .int .i64 0]) (by simp [results, Tryz.results22, go_sem, c0, c1, c2, c3]) rfl ⟨hF3, rfl⟩
    · have d4 : (((s[0]'hp).toNat : Int) == 35) = false := eq_no (d := 35) (fun e => h4 (hc.symm.trans e)) rfl
      have hC := chars_any s
      rw [hb] at hC
      by_cases h5 : let_ c = true
      · rw [step_one h1 h2 h3 h4 h5]
        have hn0 := word_pos (r := r) h5
        have hn1 := word_le (c :: r)
        rw [show (c :: r).length = s.size from hln] at hn1
        have hx : s.extract 0 (LX.word (c :: r)).length = str (LX.word (c :: r)) := by
          rw [show (LX.word (c :: r)).length = 0 + (LX.word (c :: r)).length from by omega, cut_str, hb, List.drop_zero]
          congr 1
          exact (tw_take let_ (c :: r)).symm
        have hsl := slice_to s _ _ hx hn1
        have hW := cword_any (str (LX.word (c :: r))) (by rw [str_size]; omega)
        rw [bts_str] at hW
        have hk : ∀ kd n sv k, LX.one (LX.word (c :: r)) = .tok kd n sv k → k = (LX.word (c :: r)).length := fun kd n sv k h => one_k h
        generalize str (LX.word (c :: r)) = x at hsl hW
        generalize LX.word (c :: r) = y at *
        obtain ⟨n, hn⟩ : ∃ n, y.length = n := ⟨_, rfl⟩
        rw [hn] at hC hn0 hn1 hsl hk
        have dn : ((n : Int) == 0) = false := by rw [beq_eq_false_iff_ne]; omega
        cases h9 : LX.one y with
        | skip k => exact (one_skip h9).elim
        | err z =>
          rw [h9] at hW
          have HW : Hid (∀ w, Calls Tryz.prog 40 #[.string x] w fun e w' => e = .returned (.tuple #[.agg #[.int .u8 0, .int .i64 0, .int .i64 0, .string ⟨#[]⟩], .int .i64 z]) ∧ MM.Far [] w w') := Lib.hid hW
          have HC := Lib.hid hC
          clear hC hW hb h1 h2 h3 h4 h5 h9 n1 n2 n3 hc hd0 hln hx hk hn
          go_enter Tryz.func22, Tryz.ntmps22
          go_wp2_with (first | (go_at_call 39; refine (HC.out _).mono ?_; rintro e w1 ⟨rfl, hF1⟩; have HF1 := Lib.hid hF1; clear hF1) | (go_at_call 40; refine (HW.out _).mono ?_; rintro e w2 ⟨rfl, hF2⟩; have hF := HF1.out.trans hF2 (by simp); clear HF1 hF2; obtain ⟨c0, c1, c2, c3, f0, f1, f2, f3⟩ := Cel.of ((new_row w _ w2 hF).1.alloc (.cells #[.int .u8 0, .int .i64 0, .int .i64 0, .string ⟨#[]⟩] 50)); have HF := Lib.hid hF; clear hF; simp only at c0 c1 c2 c3))
          obtain ⟨hR, hF⟩ := new_row w _ w2 HF.out
          have HS := Cel.set (hR.alloc (.cells #[.int .u8 0, .int .i64 0, .int .i64 0, .string ⟨#[]⟩] 50)) (hF.alloc _) 0 0 0 emp
          clear c0 c1 c2 c3 f0 f1 f2 f3 HF
          rw [show emp = ⟨#[]⟩ from rfl] at HS
          generalize (((((w2.alloc (.cells #[.int .u8 0, .int .i64 0, .int .i64 0, .string ⟨#[]⟩] 50)).setCell ⟨w.heap.size, 0, none⟩ (.int .u8 0)).setCell ⟨w.heap.size, 1, none⟩ (.int .i64 0)).setCell ⟨w.heap.size, 2, none⟩ (.int .i64 0)).setCell ⟨w.heap.size, 3, none⟩ (.string ⟨#[]⟩)) = w3 at HS ⊢
          obtain ⟨⟨c0, c1, c2, c3, _, _, _, _⟩, hF3⟩ := HS
          exact bodyPost_ret (v := .tuple #[.agg #[.int .u8 0, .int .i64 0, .int .i64 0, .string ⟨#[]⟩], .int .i64 n, .int .i64 z]) (by simp [results, Tryz.results22, go_sem, c0, c1, c2, c3]) rfl ⟨hF3, n, rfl⟩
        | tok kd m sv k =>
          obtain rfl := hk kd m sv k h9
          rw [h9] at hW
          have HW : Hid (∀ w, Calls Tryz.prog 40 #[.string x] w fun e w' => e = .returned (.tuple #[.agg #[.int .u8 kd, .int .i64 0, .int .i64 m, .string sv], .int .i64 0]) ∧ MM.Far [] w w') := Lib.hid hW
          have HC := Lib.hid hC
          clear hC hW hb h1 h2 h3 h4 h5 h9 n1 n2 n3 hc hd0 hln hx hk hn
          go_enter Tryz.func22, Tryz.ntmps22
          go_wp2_with (first | (go_at_call 39; refine (HC.out _).mono ?_; rintro e w1 ⟨rfl, hF1⟩; have HF1 := Lib.hid hF1; clear hF1) | (go_at_call 40; refine (HW.out _).mono ?_; rintro e w2 ⟨rfl, hF2⟩; have hF := HF1.out.trans hF2 (by simp); clear HF1 hF2; obtain ⟨c0, c1, c2, c3, f0, f1, f2, f3⟩ := Cel.of ((new_row w _ w2 hF).1.alloc (.cells #[.int .u8 kd, .int .i64 0, .int .i64 m, .string sv] 50)); have HF := Lib.hid hF; clear hF; simp only at c0 c1 c2 c3))
          obtain ⟨hR, hF⟩ := new_row w _ w2 HF.out
          have HS := Cel.set (hR.alloc (.cells #[.int .u8 kd, .int .i64 0, .int .i64 m, .string sv] 50)) (hF.alloc _) kd 0 m sv
          clear c0 c1 c2 c3 f0 f1 f2 f3 HF
          generalize (((((w2.alloc (.cells #[.int .u8 kd, .int .i64 0, .int .i64 m, .string sv] 50)).setCell ⟨w.heap.size, 0, none⟩ (.int .u8 kd)).setCell ⟨w.heap.size, 1, none⟩ (.int .i64 0)).setCell ⟨w.heap.size, 2, none⟩ (.int .i64 m)).setCell ⟨w.heap.size, 3, none⟩ (.string sv)) = w3 at HS ⊢
          obtain ⟨⟨c0, c1, c2, c3, _, _, _, _⟩, hF3⟩ := HS
          exact bodyPost_ret (v := .tuple #[.agg #[.int .u8 kd, .int .i64 0, .int .i64 m, .string sv], .int .i64 k, .int .i64 0]) (by simp [results, Tryz.results22, go_sem, c0, c1, c2, c3]) rfl ⟨hF3, rfl⟩
      · have h5 : let_ c = false := by simpa using h5
        rw [step_bad h1 h2 h3 h4 h5]
        have h0 : (LX.word (c :: r)).length = 0 := by unfold LX.word; simp [h5]
        rw [h0] at hC
        have HC : Hid (∀ w, Calls Tryz.prog 39 #[.string s] w fun e w' => e = .returned (.int .i64 0) ∧ MM.Far [] w w') := Lib.hid hC
        clear hC hb h1 h2 h3 h4 h5 h0 n1 n2 n3 hc hd0 hln
        go_enter Tryz.func22, Tryz.ntmps22
        go_wp2_with (go_at_call 39; refine (HC.out _).mono ?_; rintro e w2 ⟨rfl, hF⟩; obtain ⟨c0, c1, c2, c3, f0, f1, f2, f3⟩ := Cel.new w _ w2 hF; have HF := Lib.hid hF; clear hF; simp only at c0 c1 c2 c3)
        obtain ⟨hR, hF⟩ := new_row w _ w2 HF.out
        have HS := Cel.set hR hF 0 0 0 emp
        clear c0 c1 c2 c3 f0 f1 f2 f3 HF
        rw [show emp = ⟨#[]⟩ from rfl] at HS
        generalize ((((w2.setCell ⟨w.heap.size, 0, none⟩ (.int .u8 0)).setCell ⟨w.heap.size, 1, none⟩ (.int .i64 0)).setCell ⟨w.heap.size, 2, none⟩ (.int .i64 0)).setCell ⟨w.heap.size, 3, none⟩ (.string ⟨#[]⟩)) = w3 at HS ⊢
        obtain ⟨⟨c0, c1, c2, c3, _, _, _, _⟩, hF3⟩ := HS
        exact bodyPost_ret (v := .tuple #[.agg #[.int .u8 0, .int .i64 0, .int .i64 0, .string ⟨#[]⟩], .int .i64 0, .int .i64 50]) (by simp [results, Tryz.results22, go_sem, c0, c1, c2, c3]) rfl ⟨hF3, 0, rfl⟩
  · rw [step_mark h1 h2 h3]
    rcases mark_yes h3 with rfl | rfl | rfl
    · have d1 : (((s[0]'hp).toNat : Int) == 40) = true := eq_yes (d := 40) hc rfl
      clear hc hd0 hb hln
      go_enter Tryz.func22, Tryz.ntmps22
      go_wp2
      exact bodyPost_ret (v := .tuple #[.agg #[.int .u8 1, .int .i64 0, .int .i64 0, .string ⟨#[]⟩], .int .i64 1, .int .i64 0]) (by simp [results, Tryz.results22, go_sem]) rfl ⟨(MM.Far.refl _ _).alloc _, rfl⟩
    · have d1 : (((s[0]'hp).toNat : Int) == 40) = false := eq_no (d := 40) (by rw [hc]; decide) rfl
      have d2 : (((s[0]'hp).toNat : Int) == 41) = true := eq_yes (d := 41) hc rfl
      clear hc hd0 hb hln
      go_enter Tryz.func22, Tryz.ntmps22
      go_wp2
      exact bodyPost_ret (v := .tuple #[.agg #[.int .u8 2, .int .i64 0, .int .i64 0, .string ⟨#[]⟩], .int .i64 1, .int .i64 0]) (by simp [results, Tryz.results22, go_sem]) rfl ⟨(MM.Far.refl _ _).alloc _, rfl⟩
    · have d1 : (((s[0]'hp).toNat : Int) == 40) = false := eq_no (d := 40) (by rw [hc]; decide) rfl
      have d2 : (((s[0]'hp).toNat : Int) == 41) = false := eq_no (d := 41) (by rw [hc]; decide) rfl
      have d3 : (((s[0]'hp).toNat : Int) == 39) = true := eq_yes (d := 39) hc rfl
      clear hc hd0 hb hln
      go_enter Tryz.func22, Tryz.ntmps22
      go_wp2
      exact bodyPost_ret (v := .tuple #[.agg #[.int .u8 3, .int .i64 0, .int .i64 0, .string ⟨#[]⟩], .int .i64 1, .int .i64 0]) (by simp [results, Tryz.results22, go_sem]) rfl ⟨(MM.Far.refl _ _).alloc _, rfl⟩
end LW
end Go.Proofs.YtpbfgfadickgbaaGreatDoor
/-
  Contract of the code's own Lex. No condition.
-/
namespace Go.Proofs.YtpbfgfadickgbaaGreatDoor
open Go.RowKit
namespace LW
open LX
theorem slice_from (s x : ByteArray) (z : Int) (n : Nat) (h : s.extract n s.size = x) (hz : z = (n : Int)) (h1 : n ≤ s.size) (W : World) : (Instr.slice 9 (.string s) (some (.int .i64 z)) none none).run Tryz.prog W = .ok (.string x) W := by
  rw [run_slice_string_from_if W 9 s .i64 _ Tryz.underlying9, if_pos ⟨by omega, by omega⟩, ← h, hz]; rfl
theorem from_bts (s : ByteArray) (n : Nat) (h : n ≤ s.size) : bts (s.extract n s.size) = (bts s).drop n := by
  rw [show s.size = n + (s.size - n) by omega, cut_str, bts_str, List.take_of_length_le]
  rw [List.length_drop, bts_len]; exact Nat.le_refl _
theorem from_size (s : ByteArray) (n : Nat) (h : n ≤ s.size) : (s.extract n s.size).size = s.size - n := by
  rw [← bts_len, from_bts s n h, List.length_drop, bts_len]
theorem step_err {c : UInt8} {r : List UInt8} {e : Int} (h : LX.step (c :: r) = .err e) : (e == 0) = false := by
  by_cases h1 : LX.blank c = true
  · rw [step_blank h1] at h; cases h
  have h1 : LX.blank c = false := by simpa using h1
  by_cases h2 : c = 59
  · rw [step_note h1 h2] at h; cases h
  by_cases h3 : LX.mark c = 0
  · by_cases h4 : c = 35
    · rw [step_hash h1 h2 h3 h4] at h
      split at h
      · cases h
      · split at h
        · cases h
        · injection h with h; subst h; rfl
    · by_cases h5 : let_ c = true
      · rw [step_one h1 h2 h3 h4 h5] at h; exact one_err h
      · rw [step_bad h1 h2 h3 h4 (by simpa using h5)] at h
        injection h with h; subst h; rfl
  · rw [step_mark h1 h2 h3] at h; cases h
theorem step_go {c : UInt8} {r : List UInt8} {k : Nat} (h1 : LX.blank c = false) (h2 : c ≠ 59) (h : LX.step (c :: r) = .skip k) : False := by
  by_cases h3 : LX.mark c = 0
  · by_cases h4 : c = 35
    · rw [step_hash h1 h2 h3 h4] at h
      split at h
      · cases h
      · split at h <;> cases h
    · by_cases h5 : let_ c = true
      · rw [step_one h1 h2 h3 h4 h5] at h; exact one_skip h
      · rw [step_bad h1 h2 h3 h4 (by simpa using h5)] at h; cases h
  · rw [step_mark h1 h2 h3] at h; cases h
theorem step_pos {c : UInt8} {r : List UInt8} {kd n : Int} {sv : ByteArray} {k : Nat} (h : LX.step (c :: r) = .tok kd n sv k) : 0 < k := by
  rcases step_adv c r with ⟨e, he⟩ | ⟨h1, _⟩
  · rw [h] at he; cases he
  · rw [h] at h1; exact h1
/-- What holds where the code's loop begins a round: the tokens so far, and what is to come; no blank stands at i. -/
def CI (s : ByteArray) (w0 : World) (R : Except (Nat × Int) (List Tk)) (i : Nat) (v : Value) (out : List Tk) (w : World) : Prop :=
  LI s w0 R i v out w ∧ gapF false ((bts s).drop i) = 0
set_option maxRecDepth 20000 in
set_option maxHeartbeats 4000000 in
theorem lex_in (s : ByteArray) (hs : s.size ≤ 4000) (w : World) : Calls Tryz.prog 10 #[.string s] w (LexP w (LX.lex s)) := by
  have hR0 : LX.lex s = lexL (bts s) 0 [] := by unfold LX.lex; rw [if_neg (by omega)]
  obtain ⟨R, hR⟩ : ∃ R, lexL (bts s) 0 [] = R := ⟨_, rfl⟩
  rw [hR0, hR]
  obtain ⟨g, hg⟩ : ∃ g, gapF false (bts s) = g := ⟨_, rfl⟩
  have hgs : g ≤ s.size := by have := gapF_le false (bts s); rw [bts_len] at this; omega
  have HB : Hid (∀ w2, MM.Far [] w w2 → CI s w R g (.slice none 0 0) [] w2) := Lib.hid (fun w2 hF => ⟨⟨(Lx.begin w).to hF, Nat.zero_le _, by
    have := lexL_gap (bts s).length (bts s) 0 [] (Nat.le_refl _)
    rw [hR, hg, Nat.zero_add] at this
    exact this.symm⟩, by rw [← hg]; exact gapF_stop _ _⟩)
  have HEND : Hid (∀ v out w2, CI s w R s.size v out w2 → LexP w R (.returned (.tuple #[v, .int .i64 0, .int .i64 0])) w2) := Lib.hid (by
    intro v out w2 h
    refine h.1.1.done ?_
    have := h.1.2.2
    rw [List.drop_eq_nil_of_le (by rw [bts_len]; exact Nat.le_refl _), lexL_nil] at this
    exact this.symm)
  have HG := Lib.hid (gap_any s)
  rw [hg] at HG
  clear hR0 hR hg
  go_enter Tryz.func10, Tryz.ntmps10
  go_wp2_with (go_at_call 21; refine (HG.out _).mono ?_; rintro e w2 ⟨rfl, hF⟩; have HI := Lib.hid (HB.out _ hF); clear hF)
  go_loopw [5, 6] (fun s5 s6 wr => ∃ (i : Nat) (v : Value) (out : List Tk), i ≤ s.size ∧ v = s5 ∧ s6 = .int .i64 i ∧ Hid (CI s w R i v out wr)) (fun _ s6 _ => s.size - (intOf s6).toNat)
  case atStart => exact ⟨g, _, _, hgs, rfl, rfl, HI⟩
  case round =>
    obtain ⟨i, v, out, hi, rfl, rfl, hI⟩ := hrel
    by_cases hlt : i < s.size
    · have hdc := drop_cons s i hlt
      have hh := hI.out.2
      rw [hdc] at hh
      obtain ⟨hb, h59⟩ := gapF_head hh
      have hsl := slice_from s _ (i : Int) i rfl rfl hi
      have hx := from_bts s i hi
      have hxs := from_size s i hi
      generalize s.extract i s.size = x at hsl hx hxs
      rw [hdc] at hx
      have hF := first_any x _ _ hx hb h59 (by omega)
      have HL := Lib.hid hI.out.1.1
      have ho := hI.out.1.2.1
      cases hst : LX.step (s[i] :: (bts s).drop (i + 1)) with
      | skip k => exact (step_go hb h59 hst).elim
      | err z =>
        rw [hst] at hF
        have dz := step_err hst
        have dz' : (z != 0) = true := by rw [bne, dz]; rfl
        have HF : Hid (∀ w, Calls Tryz.prog 22 #[.string x] w fun e w' => MM.Far [] w w' ∧ ∃ c : Int, e = .returned (.tuple #[.agg #[.int .u8 0, .int .i64 0, .int .i64 0, .string ⟨#[]⟩], .int .i64 c, .int .i64 z])) := Lib.hid hF
        have HN := Lib.hid (lex_err hlt hI.out.1.2.2 hst)
        clear hF hst hb h59 hh hdc hx hxs hI
        go_wp2_with (go_at_call 22; refine (HF.out _).mono ?_; rintro e w2 ⟨hF2, cc, rfl⟩; have HF2 := Lib.hid hF2; clear hF2)
        go_ret3
        exact LexP.err ((HL.out.far.trans HF2.out (by simp)).alloc _) HN.out
      | tok kd n sv k =>
        rw [hst] at hF
        have HF : Hid (∀ w, Calls Tryz.prog 22 #[.string x] w fun e w' => MM.Far [] w w' ∧ e = .returned (.tuple #[.agg #[.int .u8 kd, .int .i64 0, .int .i64 n, .string sv], .int .i64 (k : Int), .int .i64 0])) := Lib.hid hF
        have hN := lex_tok hlt hI.out.1.2.2 hst
        have hk := step_pos hst
        have hik : i + k ≤ s.size := by
          rcases lex_fits hlt with ⟨e, he⟩ | h
          · rw [hst] at he; cases he
          · rw [hst] at h; exact h
        have hsl2 := slice_from s _ ((i : Int) + (k : Int)) (i + k) rfl (by omega) hik
        have hG := gap_any (s.extract (i + k) s.size)
        rw [from_bts s (i + k) hik] at hG
        generalize s.extract (i + k) s.size = y at hsl2 hG
        obtain ⟨q, hq⟩ : ∃ q, gapF false ((bts s).drop (i + k)) = q := ⟨_, rfl⟩
        have hqs : i + k + q ≤ s.size := by
          have := gapF_le false ((bts s).drop (i + k))
          rw [List.length_drop, bts_len, hq] at this; omega
        have hst2 := gapF_stop ((bts s).drop (i + k)) false
        rw [lexL_gap _ _ _ _ (Nat.le_refl _), hq] at hN
        rw [hq] at hG hst2
        rw [List.drop_drop] at hN hst2
        have HG2 := Lib.hid hG
        have HN := Lib.hid hN
        have HS2 := Lib.hid hst2
        clear hF hst hb h59 hh hdc hx hxs hI hG hN hst2 hq HG HB
        go_wp2_with (first
          | (go_at_call 22; refine (HF.out _).mono ?_; rintro e w2 ⟨hF2, rfl⟩; have HL3 := Lib.hid ((HL.out.to hF2).to ((MM.Far.refl [] w2).alloc (.cells #[.int .u8 kd, .int .i64 i, .int .i64 n, .string sv] 50))); clear hF2)
          | (refine lx_push w _ v out ⟨kd, i, n, sv⟩ HL3.out (by omega) rfl (.tmp 39) (.tmp 41) rfl rfl (by rw [World.size_alloc]; rfl) ?_; intro v' w2 hL2; have HL2 := Lib.hid hL2; clear hL2)
          | (go_at_call 21; refine (HG2.out _).mono ?_; rintro e w4 ⟨rfl, hF4⟩; have HL4 := Lib.hid (HL2.out.to hF4); clear hF4))
        go_roundw
        case rel => exact ⟨i + k + q, v', _, hqs, rfl, by go_num, Lib.hid ⟨⟨HL4.out, by simp; omega, HN.out⟩, HS2.out⟩⟩
        case measure => simp [intOf]; omega
    · obtain rfl : i = s.size := by omega
      have HE := Lib.hid (HEND.out v out wr hI.out)
      clear hI
      go_wp2
      go_ret3
      exact HE.out
theorem lex_any (s : ByteArray) (w : World) : Calls Tryz.prog 10 #[.string s] w (LexP w (LX.lex s)) := by
  by_cases h : s.size ≤ 4000
  · exact lex_in s h w
  · have e : LX.lex s = .error (0, 3) := by unfold LX.lex; rw [if_pos (by omega)]
    rw [e]
    clear e
    go_enter Tryz.func10, Tryz.ntmps10
    go_wp2
    go_ret3
    exact ⟨MM.Far.refl _ _, rfl⟩
theorem lex_q (s : ByteArray) (_hs : s.size ≤ 140737488355328) (w : World) : Calls Tryz.prog 10 #[.string s] w (LexQ w (LX.lex s)) := (lex_any s w).mono fun _ _ h => h.q
end LW
end Go.Proofs.YtpbfgfadickgbaaGreatDoor
