/-
  Contract of the document's own Digits: a number's numeral. Condition: 64 bits.
-/
import Derived.Test.YtbglcdjimipeeaaGreatDoorShowItoa
import Derived.Laws.IdiomStrings
import Derived.IntWalk
namespace Go.Proofs.YtbglcdjimipeeaaGreatDoor
open Go.RowKit
namespace SW
open LX
theorem str_two (a b : List UInt8) : str a ++ str b = str (a ++ b) := by
  apply ByteArray.ext
  simp [str, ByteArray.data_append]
theorem byte_back (w : World) (x : UInt8) (n : Int) (hn : n = (x.toNat : Int)) : (convert 72 9 (.slice (some ⟨w.heap.size, 0, none⟩) 1 1)).run Tryz.prog (w.alloc (.cells #[.int .u8 n] 5)) = .ok (.string (str [x])) (w.alloc (.cells #[.int .u8 n] 5)) := by
  subst hn
  exact run_convert_bytes_back (P := Tryz.prog) _ 72 9 5 ⟨w.heap.size, 0, none⟩ 1 [x] Tryz.underlying72 Tryz.underlying5 Tryz.underlying9 (fun j hj => by
    have : j = 0 := by simpa using hj
    subst this
    exact (MM.Row.new w 5 [.int .u8 (x.toNat : Int)]).at (i := 0) rfl)
theorem dig_u8 (k : Nat) (h : k < 10) : (48 : Int) + (k : Int) = ((UInt8.ofNat (48 + k)).toNat : Int) := by
  have : (UInt8.ofNat (48 + k)).toNat = 48 + k := by
    simp
    omega
  rw [this]; omega
theorem dec_step (m : Nat) (h : 9 < m) : Lib.decDigits m = Lib.decDigits (m / 10) ++ [UInt8.ofNat (48 + m % 10)] := by
  rw [Lib.decDigits, dif_neg (by omega)]
def DigI (w : World) (n : Nat) (m : Nat) (l : List UInt8) (wr : World) : Prop := Lib.decDigits m ++ l = Lib.decDigits n ∧ MM.Far [] w wr
set_option maxHeartbeats 1000000 in
set_option maxRecDepth 20000 in
theorem digits2_any (n : Nat) (hn : n < 18446744073709551616) (w : World) : Calls Tryz.prog 48 #[.int .u64 (n : Int)] w fun e w' => e = .returned (.string (str (Lib.decDigits n))) ∧ MM.Far [] w w' := by
  have hlen : (Lib.decDigits n).length ≤ 20 := by
    rw [Lib.decDigits_length]
    exact Lib.nDigits_le20 n hn
  have HLEN := Lib.hid hlen
  have HD0 : Hid (DigI w n n [] w) := Lib.hid ⟨by simp, MM.Far.refl [] _⟩
  clear hlen
  go_enter Tryz.func48, Tryz.ntmps48
  go_wp2
  go_loopw [0, 3] (fun s0 s3 wr => ∃ (m : Nat) (l : List UInt8), m < 18446744073709551616 ∧ s0 = .int .u64 (m : Int) ∧ s3 = .string (str l) ∧ Hid (DigI w n m l wr)) (fun s0 _ _ => (intOf s0).toNat)
  case atStart => exact ⟨n, [], hn, rfl, rfl, HD0⟩
  case round =>
    obtain ⟨m, l, hm, rfl, rfl, hI⟩ := hrel
    have hl : (str l).size ≤ 20 := by
      have h1 := congrArg List.length hI.out.1
      rw [List.length_append] at h1
      have h2 := HLEN.out
      show l.length ≤ 20
      omega
    by_cases h9 : 9 < m
    · have hb : (str [UInt8.ofNat (48 + m % 10)]).size ≤ 1 := Nat.le_refl 1
      have hcv := byte_back wr (UInt8.ofNat (48 + m % 10)) (48 + (m : Int) % 10) (by rw [← dig_u8 (m % 10) (by omega)]; omega)
      have HST := Lib.hid (dec_step m h9)
      have HQ : Hid ((m : Int) / 10 = ((m / 10 : Nat) : Int)) := Lib.hid (by omega)
      generalize UInt8.ofNat (48 + m % 10) = x at *
      go_wp2
      go_roundw
      case rel =>
        refine ⟨m / 10, x :: l, by omega, by rw [HQ.out], by rw [str_two]; rfl, Lib.hid ⟨?_, hI.out.2.alloc _⟩⟩
        rw [← hI.out.1, HST.out, List.append_assoc]; rfl
      case measure => simp [intOf]; omega
    · have hb : (str [UInt8.ofNat (48 + m)]).size ≤ 1 := Nat.le_refl 1
      have hcv := byte_back wr (UInt8.ofNat (48 + m)) (48 + (m : Int)) (dig_u8 m (by omega))
      have HE : Hid (Lib.decDigits n = [UInt8.ofNat (48 + m)] ++ l) := Lib.hid (by rw [← hI.out.1, Lib.decDigits_one (by omega)])
      generalize UInt8.ofNat (48 + m) = x at *
      go_wp2
      go_ret
      rw [HE.out, ← str_two]
      exact ⟨rfl, hI.out.2.alloc _⟩
set_option maxHeartbeats 1000000 in
theorem digits_any (n : Int) (h0 : -9223372036854775808 ≤ n) (h1 : n ≤ 9223372036854775807) (w : World) : Calls Tryz.prog 25 #[.int .i64 n] w fun e w' => e = .returned (.string (str (Lib.itoa n))) ∧ MM.Far [] w w' := by
  by_cases hn : n < 0
  · have H := Lib.hid (digits2_any n.natAbs (by omega))
    have HE : Hid (Lib.itoa n = [45] ++ Lib.decDigits n.natAbs) := Lib.hid (by unfold Lib.itoa; rw [if_pos hn]; rfl)
    have hz : (str (Lib.decDigits n.natAbs)).size ≤ 20 := by
      show (Lib.decDigits n.natAbs).length ≤ 20
      rw [Lib.decDigits_length]
      exact Lib.nDigits_le20 _ (by omega)
    have hw : IntKind.u64.wrap (wrap64 (-n)) = ((n.natAbs : Nat) : Int) := by
      unfold wrap64
      simp only [IntKind.wrap, IntKind.signed, IntKind.bits]
      simp
      omega
    generalize Lib.decDigits n.natAbs = D at *
    go_enter Tryz.func25, Tryz.ntmps25
    go_wp2_with (go_at_call 48; (with_reducible refine (H.out _).mono ?_); rintro e w2 ⟨rfl, hF2⟩; have HF2 := Lib.hid hF2; clear hF2)
    go_ret
    rw [HE.out, ← str_two]
    exact ⟨rfl, HF2.out⟩
  · have H := Lib.hid (digits2_any n.toNat (by omega))
    have HE : Hid (Lib.itoa n = Lib.decDigits n.toNat) := Lib.hid (by unfold Lib.itoa; rw [if_neg hn])
    have hn2 : 0 ≤ n := by omega
    have hx : ((n.toNat : Nat) : Int) = n := by omega
    rw [hx] at H
    clear hx
    go_enter Tryz.func25, Tryz.ntmps25
    go_wp2_with (go_at_call 48; (with_reducible refine (H.out _).mono ?_); rintro e w2 ⟨rfl, hF2⟩; have HF2 := Lib.hid hF2; clear hF2)
    go_ret
    rw [HE.out]
    exact ⟨rfl, HF2.out⟩
end SW
end Go.Proofs.YtbglcdjimipeeaaGreatDoor
