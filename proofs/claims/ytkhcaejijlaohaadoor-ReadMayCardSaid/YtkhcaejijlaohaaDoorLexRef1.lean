/-
  Contracts of the document's own parts of layer 5: letter, mark, word. Condition: a text is no longer than 2^47 bytes.
-/
import Derived.Test.YtkhcaejijlaohaaDoorProg
import Derived.Test.YtkhcaejijlaohaaDoorMem
import Derived.Test.YtkhcaejijlaohaaDoorLexPlain
import Derived.Lib.Hide
import Derived.Lib.Strings
import Derived.WalkKit
import Derived.WalkSpells
import Derived.WalkLawsBesides
namespace Go.Proofs.YtkhcaejijlaohaaDoor
open Go.RowKit
namespace LW
open LX
theorem data_at (s : ByteArray) (k : Nat) (h : k < s.size) : (bts s)[k]? = some s[k] := by
  unfold bts
  have h1 : k < s.data.size := h
  rw [Array.getElem?_toList, Array.getElem?_eq_getElem h1]; rfl
theorem bts_len (s : ByteArray) : (bts s).length = s.size := by unfold bts; rw [Array.length_toList]; rfl
def mks : ByteArray := ⟨#[33, 36, 37, 38, 42, 43, 45, 47, 58, 60, 61, 62, 63, 94, 95, 126]⟩
def NoneOf (m : ByteArray) (c : UInt8) (k : Nat) : Prop := ∀ j, j < k → (bts m)[j]? ≠ some c
theorem noneof_hit {m : ByteArray} {c : UInt8} {k : Nat} (h : k < m.size) (e : m[k] = c) : decide (c ∈ bts m) = true := by
  have h1 := data_at m k h
  rw [e] at h1
  simp [List.mem_of_getElem? h1]
theorem noneof_step {m : ByteArray} {c : UInt8} {k : Nat} (hn : NoneOf m c k) (h : k < m.size) (e : m[k] ≠ c) : NoneOf m c (k + 1) := by
  intro j hj
  by_cases hjk : j = k
  · subst hjk; rw [data_at m j h]; simpa using e
  · exact hn j (by omega)
theorem noneof_all {m : ByteArray} {c : UInt8} (hn : NoneOf m c m.size) : decide (c ∈ bts m) = false := by
  have h1 : c ∉ bts m := by
    intro hm
    obtain ⟨j, hj, e⟩ := List.mem_iff_getElem.1 hm
    exact hn j (by rw [← bts_len]; exact hj) (by rw [List.getElem?_eq_getElem hj, e])
  simp [h1]
set_option maxHeartbeats 2000000 in
theorem letter_any (c : UInt8) (w : World) : Calls Tryd.prog 34 #[.int .u8 (c.toNat : Int)] w fun e w' => e = .returned (.bool (let_ c)) ∧ w = w' := by
  have hc := c.toNat_lt
  obtain ⟨n, hn⟩ : ∃ n, c.toNat = n := ⟨_, rfl⟩
  have HN := Lib.hid hn
  rw [hn]
  rw [hn] at hc
  clear hn
  by_cases h1 : (97 ≤ n ∧ n ≤ 122) ∨ (65 ≤ n ∧ n ≤ 90) ∨ (48 ≤ n ∧ n ≤ 57)
  · have e1 : let_ c = true := by
      unfold let_
      rw [HN.out]
      rcases h1 with h | h | h <;> simp [h.1, h.2]
    rw [e1]
    clear e1
    by_cases a1 : 97 ≤ n
    · by_cases a2 : n ≤ 122
      · have d1 : decide ((97 : Int) ≤ n) = true := by simp; omega
        have d2 : decide ((n : Int) ≤ 122) = true := by simp; omega
        clear h1 a1 a2
        go_enter Tryd.func34, Tryd.ntmps34
        go_wp2
        go_ret
        exact ⟨rfl, rfl⟩
      · omega
    · have d1 : decide ((97 : Int) ≤ n) = false := by simp; omega
      by_cases b1 : 65 ≤ n
      · have d2 : decide ((65 : Int) ≤ n) = true := by simp; omega
        have d3 : decide ((n : Int) ≤ 90) = true := by simp; omega
        clear h1 a1 b1
        go_enter Tryd.func34, Tryd.ntmps34
        go_wp2
        go_ret
        exact ⟨rfl, rfl⟩
      · have d2 : decide ((65 : Int) ≤ n) = false := by simp; omega
        have d3 : decide ((48 : Int) ≤ n) = true := by simp; omega
        have d4 : decide ((n : Int) ≤ 57) = true := by simp; omega
        clear h1 a1 b1
        go_enter Tryd.func34, Tryd.ntmps34
        go_wp2
        go_ret
        exact ⟨rfl, rfl⟩
  · have e1 : let_ c = decide (c ∈ bts mks) := by
      unfold let_
      rw [HN.out]
      have x1 : (decide (97 ≤ n) && decide (n ≤ 122)) = false := by simp; omega
      have x2 : (decide (65 ≤ n) && decide (n ≤ 90)) = false := by simp; omega
      have x3 : (decide (48 ≤ n) && decide (n ≤ 57)) = false := by simp; omega
      rw [x1, x2, x3, ← List.contains_eq_mem]; rfl
    rw [e1]
    clear e1
    have hm : mks.size = 16 := rfl
    have h4 : n < 48 ∨ (58 ≤ n ∧ n < 65) ∨ (91 ≤ n ∧ n < 97) ∨ 123 ≤ n := by omega
    clear h1
    rcases h4 with h | h | h | h
    · have d1 : decide ((97 : Int) ≤ n) = false := by simp; omega
      have d2 : decide ((65 : Int) ≤ n) = false := by simp; omega
      have d3 : decide ((48 : Int) ≤ n) = false := by simp; omega
      clear h
      go_enter Tryd.func34, Tryd.ntmps34
      go_wp2
      rw [show (⟨#[33, 36, 37, 38, 42, 43, 45, 47, 58, 60, 61, 62, 63, 94, 95, 126]⟩ : ByteArray) = mks from rfl]
      go_loop [4] (fun i => ∃ k : Nat, k ≤ 16 ∧ i = .int .i64 (k : Int) ∧ Hid (NoneOf mks c k)) (fun i => 16 - (intOf i).toNat)
      case atStart => exact ⟨0, by omega, rfl, Lib.hid (fun j hj => absurd hj (by omega))⟩
      case round =>
        obtain ⟨k, hk, rfl, hno⟩ := hrel
        by_cases hlt : k < 16
        · have hks : k < mks.size := by omega
          by_cases e : (mks[k]).toNat = n
          · have h1 := noneof_hit (c := c) hks (UInt8.toNat_inj.1 (e.trans HN.out.symm))
            have H1 := Lib.hid h1
            have e1 : (((mks[k]).toNat : Int) == (n : Int)) = true := by rw [beq_iff_eq]; omega
            clear e h1
            go_wp2
            go_ret
            rw [H1.out]
            exact ⟨rfl, rfl⟩
          · have h1 := noneof_step hno.out hks (fun h => e (h ▸ HN.out))
            have H1 := Lib.hid h1
            have e1 : (((mks[k]).toNat : Int) == (n : Int)) = false := by rw [beq_eq_false_iff_ne]; omega
            clear e h1
            go_wp2
            go_round
            case rel => exact ⟨k + 1, by omega, by go_num, H1⟩
            case measure => simp [intOf]; omega
        · obtain rfl : k = 16 := by omega
          have H1 := Lib.hid (noneof_all (m := mks) (by rw [hm]; exact hno.out))
          go_wp2
          go_ret
          rw [H1.out]
          exact ⟨rfl, rfl⟩
    · have d1 : decide ((97 : Int) ≤ n) = false := by simp; omega
      have d2 : decide ((65 : Int) ≤ n) = false := by simp; omega
      have d3 : decide ((48 : Int) ≤ n) = true := by simp; omega
      have d4 : decide ((n : Int) ≤ 57) = false := by simp; omega
      clear h
      go_enter Tryd.func34, Tryd.ntmps34
      go_wp2
      rw [show (⟨#[33, 36, 37, 38, 42, 43, 45, 47, 58, 60, 61, 62, 63, 94, 95, 126]⟩ : ByteArray) = mks from rfl]
      go_loop [4] (fun i => ∃ k : Nat, k ≤ 16 ∧ i = .int .i64 (k : Int) ∧ Hid (NoneOf mks c k)) (fun i => 16 - (intOf i).toNat)
      case atStart => exact ⟨0, by omega, rfl, Lib.hid (fun j hj => absurd hj (by omega))⟩
      case round =>
        obtain ⟨k, hk, rfl, hno⟩ := hrel
        by_cases hlt : k < 16
        · have hks : k < mks.size := by omega
          by_cases e : (mks[k]).toNat = n
          · have h1 := noneof_hit (c := c) hks (UInt8.toNat_inj.1 (e.trans HN.out.symm))
            have H1 := Lib.hid h1
            have e1 : (((mks[k]).toNat : Int) == (n : Int)) = true := by rw [beq_iff_eq]; omega
            clear e h1
            go_wp2
            go_ret
            rw [H1.out]
            exact ⟨rfl, rfl⟩
          · have h1 := noneof_step hno.out hks (fun h => e (h ▸ HN.out))
            have H1 := Lib.hid h1
            have e1 : (((mks[k]).toNat : Int) == (n : Int)) = false := by rw [beq_eq_false_iff_ne]; omega
            clear e h1
            go_wp2
            go_round
            case rel => exact ⟨k + 1, by omega, by go_num, H1⟩
            case measure => simp [intOf]; omega
        · obtain rfl : k = 16 := by omega
          have H1 := Lib.hid (noneof_all (m := mks) (by rw [hm]; exact hno.out))
          go_wp2
          go_ret
          rw [H1.out]
          exact ⟨rfl, rfl⟩
    · have d1 : decide ((97 : Int) ≤ n) = false := by simp; omega
      have d2 : decide ((65 : Int) ≤ n) = true := by simp; omega
      have d3 : decide ((n : Int) ≤ 90) = false := by simp; omega
      have d4 : decide ((48 : Int) ≤ n) = true := by simp; omega
      have d5 : decide ((n : Int) ≤ 57) = false := by simp; omega
      clear h
      go_enter Tryd.func34, Tryd.ntmps34
      go_wp2
      rw [show (⟨#[33, 36, 37, 38, 42, 43, 45, 47, 58, 60, 61, 62, 63, 94, 95, 126]⟩ : ByteArray) = mks from rfl]
      go_loop [4] (fun i => ∃ k : Nat, k ≤ 16 ∧ i = .int .i64 (k : Int) ∧ Hid (NoneOf mks c k)) (fun i => 16 - (intOf i).toNat)
      case atStart => exact ⟨0, by omega, rfl, Lib.hid (fun j hj => absurd hj (by omega))⟩
      case round =>
        obtain ⟨k, hk, rfl, hno⟩ := hrel
        by_cases hlt : k < 16
        · have hks : k < mks.size := by omega
          by_cases e : (mks[k]).toNat = n
          · have h1 := noneof_hit (c := c) hks (UInt8.toNat_inj.1 (e.trans HN.out.symm))
            have H1 := Lib.hid h1
            have e1 : (((mks[k]).toNat : Int) == (n : Int)) = true := by rw [beq_iff_eq]; omega
            clear e h1
            go_wp2
            go_ret
            rw [H1.out]
            exact ⟨rfl, rfl⟩
          · have h1 := noneof_step hno.out hks (fun h => e (h ▸ HN.out))
            have H1 := Lib.hid h1
            have e1 : (((mks[k]).toNat : Int) == (n : Int)) = false := by rw [beq_eq_false_iff_ne]; omega
            clear e h1
            go_wp2
            go_round
            case rel => exact ⟨k + 1, by omega, by go_num, H1⟩
            case measure => simp [intOf]; omega
        · obtain rfl : k = 16 := by omega
          have H1 := Lib.hid (noneof_all (m := mks) (by rw [hm]; exact hno.out))
          go_wp2
          go_ret
          rw [H1.out]
          exact ⟨rfl, rfl⟩
    · have d1 : decide ((97 : Int) ≤ n) = true := by simp; omega
      have d2 : decide ((n : Int) ≤ 122) = false := by simp; omega
      have d3 : decide ((65 : Int) ≤ n) = true := by simp; omega
      have d4 : decide ((n : Int) ≤ 90) = false := by simp; omega
      have d5 : decide ((48 : Int) ≤ n) = true := by simp; omega
      have d6 : decide ((n : Int) ≤ 57) = false := by simp; omega
      clear h
      go_enter Tryd.func34, Tryd.ntmps34
      go_wp2
      rw [show (⟨#[33, 36, 37, 38, 42, 43, 45, 47, 58, 60, 61, 62, 63, 94, 95, 126]⟩ : ByteArray) = mks from rfl]
      go_loop [4] (fun i => ∃ k : Nat, k ≤ 16 ∧ i = .int .i64 (k : Int) ∧ Hid (NoneOf mks c k)) (fun i => 16 - (intOf i).toNat)
      case atStart => exact ⟨0, by omega, rfl, Lib.hid (fun j hj => absurd hj (by omega))⟩
      case round =>
        obtain ⟨k, hk, rfl, hno⟩ := hrel
        by_cases hlt : k < 16
        · have hks : k < mks.size := by omega
          by_cases e : (mks[k]).toNat = n
          · have h1 := noneof_hit (c := c) hks (UInt8.toNat_inj.1 (e.trans HN.out.symm))
            have H1 := Lib.hid h1
            have e1 : (((mks[k]).toNat : Int) == (n : Int)) = true := by rw [beq_iff_eq]; omega
            clear e h1
            go_wp2
            go_ret
            rw [H1.out]
            exact ⟨rfl, rfl⟩
          · have h1 := noneof_step hno.out hks (fun h => e (h ▸ HN.out))
            have H1 := Lib.hid h1
            have e1 : (((mks[k]).toNat : Int) == (n : Int)) = false := by rw [beq_eq_false_iff_ne]; omega
            clear e h1
            go_wp2
            go_round
            case rel => exact ⟨k + 1, by omega, by go_num, H1⟩
            case measure => simp [intOf]; omega
        · obtain rfl : k = 16 := by omega
          have H1 := Lib.hid (noneof_all (m := mks) (by rw [hm]; exact hno.out))
          go_wp2
          go_ret
          rw [H1.out]
          exact ⟨rfl, rfl⟩
end LW
end Go.Proofs.YtkhcaejijlaohaaDoor
