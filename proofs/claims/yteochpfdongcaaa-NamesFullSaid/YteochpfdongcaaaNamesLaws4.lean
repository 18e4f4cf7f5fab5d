/-
  The walk of layer 4's statement NamesFull: it answers true whichever name is asked for. No condition.
-/
import Derived.Test.YteochpfdongcaaaNamesShown
import Derived.Test.YteochpfdongcaaaNamesSet
import Derived.Laws.BitsAllLaws
import Derived.Laws.BitsLemmas
import Derived.Laws.IdiomStrings
import Derived.WalkLawsBesides
namespace Go.Proofs.Yteochpfdongcaaa
open Go.RowKit Go.Maps
namespace NP
def nmL (k : Nat) : List UInt8 := [UInt8.ofNat (97 + k % 16), UInt8.ofNat (97 + k / 16 % 16), UInt8.ofNat (97 + k / 256)]
/-- The k-th name. -/
def nm (k : Nat) : ByteArray := ⟨(nmL k).toArray⟩
theorem nm_size (k : Nat) : (nm k).size = 3 := rfl
theorem nm_fits (k : Nat) : fits (nm k) := by unfold fits; rw [nm_size]; omega
theorem nm_inj {j k : Nat} (hj : j < 4096) (hk : k < 4096) (h : nm j = nm k) : j = k := by
  have h1 : nmL j = nmL k := by
    have := congrArg ByteArray.data h
    exact congrArg Array.toList this
  unfold nmL at h1
  simp only [List.cons.injEq, and_true] at h1
  obtain ⟨a, b, c⟩ := h1
  have a := congrArg UInt8.toNat a
  have b := congrArg UInt8.toNat b
  have c := congrArg UInt8.toNat c
  simp only [UInt8.toNat_ofNat'] at a b c
  omega
def nms (k : Nat) : List ByteArray := (List.range k).map nm
theorem nms_len (k : Nat) : (nms k).length = k := by simp [nms]
theorem nms_succ (k : Nat) : nms (k + 1) = nms k ++ [nm k] := by simp [nms, List.range_succ]
theorem nms_not {j k : Nat} (hj : k < 4096) (hk : j ≤ k) : nm k ∉ nms j := by
  intro hm
  obtain ⟨i, hi, e⟩ := List.mem_map.1 hm
  have hi : i < j := by simpa using hi
  have := nm_inj (by omega) hj e
  omega
theorem nms_at (k j : Nat) (hj : j < k) : (nms k)[j]? = some (nm j) := by simp [nms, hj]
theorem nms_idx {k j : Nat} (hk : k ≤ 4096) (hj : j < k) : (nms k).idxOf (nm j) = j := by
  have e : nms k = nms j ++ ((nms k).drop j) := by
    have : nms j = (nms k).take j := by
      unfold nms
      rw [← List.map_take, List.take_range, Nat.min_eq_left (by omega)]
    rw [this, List.take_append_drop]
  rw [e, List.idxOf_append, if_neg (nms_not (by omega) (Nat.le_refl _)), nms_len]
  have h2 : (nms k).drop j = nm j :: (nms k).drop (j + 1) := by
    rw [List.drop_eq_getElem_cons (by rw [nms_len]; exact hj)]
    congr 1
    have := nms_at k j hj
    rw [List.getElem?_eq_getElem (by rw [nms_len]; exact hj)] at this
    exact Option.some.inj this
  rw [h2]
  simp
theorem nms_mem {k j : Nat} (hj : j < k) : nm j ∈ nms k := List.mem_of_getElem? (nms_at k j hj)
theorem nms_put {k : Nat} (hk : k < 4096) : putI (nms k) (nm k) = k ∧ putE (nms k) (nm k) = 0 ∧ putL (nms k) (nm k) = nms (k + 1) := by
  have h1 := nms_not hk (Nat.le_refl k)
  have h2 := nm_fits k
  refine ⟨?_, ?_, ?_⟩
  · simp [putI, h1, h2, nms_len, hk]
  · simp [putE, h1, h2, nms_len, hk]
  · simp [putL, h1, h2, nms_len, hk, nms_succ]
def more : ByteArray := ⟨#[111, 110, 101, 32, 109, 111, 114, 101]⟩
theorem more_not (k : Nat) : more ∉ nms k := by
  intro hm
  obtain ⟨i, _, e⟩ := List.mem_map.1 hm
  have := congrArg ByteArray.size e
  rw [nm_size] at this
  exact absurd this (by decide)
theorem full_put : putI (nms 4096) more = 0 ∧ putE (nms 4096) more = 3 ∧ putL (nms 4096) more = nms 4096 := by
  have h1 := more_not 4096
  have h2 : fits more := by decide
  have h3 : ¬ (nms 4096).length < 4096 := by rw [nms_len]; omega
  generalize nms 4096 = l at *
  exact ⟨by simp [putI, h1, h2, h3], by simp [putE, h1, h2, h3], by simp [putL, h3]⟩
theorem full_again {j : Nat} (hj : j < 4096) : putI (nms 4096) (nm j) = j ∧ putE (nms 4096) (nm j) = 0 ∧ putL (nms 4096) (nm j) = nms 4096 := by
  have h1 : nm j ∈ nms 4096 := nms_mem hj
  have h2 := nm_fits j
  have h3 : (nms 4096).idxOf (nm j) = j := nms_idx (Nat.le_refl _) hj
  generalize nms 4096 = l at *
  exact ⟨by simp [putI, h1, h2, h3], by simp [putE, h1, h2], by simp [putL, h1]⟩
theorem full_find : findI (nms 4096) more = 0 ∧ findB (nms 4096) more = false := ⟨findI_no (more_not _), findB_no (more_not _)⟩
end NP
namespace NW
open MM
theorem and15 (a : Nat) (ha : a < 9223372036854775808) : bits .and .i64 (a : Int) 15 = ((a % 16 : Nat) : Int) := by
  have e : (BitVec.ofInt 64 (a : Int)).toNat = a := by
    rw [BitVec.ofInt_natCast, BitVec.toNat_ofNat]; exact Nat.mod_eq_of_lt (by omega)
  show IntKind.i64.wrap ((BitVec.ofInt 64 (a : Int) &&& BitVec.ofInt 64 15).toNat : Int) = _
  rw [BitVec.toNat_and, e, show (BitVec.ofInt 64 15).toNat = 2 ^ 4 - 1 from rfl, Nat.and_two_pow_sub_one_eq_mod, IntKind.wrap_i64]
  omega
set_option maxHeartbeats 1000000 in
theorem name_any (k : Nat) (hk : k < 4096) (w : World) : Calls Try.prog 18 #[.int .i64 k] w fun e w' => e = .returned (.string (NP.nm k)) ∧ Far [] w w' := by
  obtain ⟨x, hx⟩ : ∃ x : Nat, x = 97 + k % 16 := ⟨_, rfl⟩
  obtain ⟨y, hy⟩ : ∃ y : Nat, y = 97 + k / 16 % 16 := ⟨_, rfl⟩
  obtain ⟨z, hz⟩ : ∃ z : Nat, z = 97 + k / 256 := ⟨_, rfl⟩
  have b1 : bits .and .i64 (k : Int) 15 = (x : Int) - 97 := by rw [and15 k (by omega)]; omega
  have b2 : bits .and .i64 ((k : Int) / 16) 15 = (y : Int) - 97 := by
    rw [show (k : Int) / 16 = ((k / 16 : Nat) : Int) from by omega, and15 _ (by omega)]; omega
  have b3 : (97 : Int) + (k : Int) / 256 = z := by omega
  have hnm : NP.nmL k = [UInt8.ofNat x, UInt8.ofNat y, UInt8.ofNat z] := by rw [hx, hy, hz]; rfl
  have hcv := run_convert_bytes_back (P := Try.prog) (w.alloc (.cells #[.int .u8 x, .int .u8 y, .int .u8 z] 5)) 45 9 5 ⟨w.heap.size, 0, none⟩ 3 (NP.nmL k) Try.underlying45 Try.underlying5 Try.underlying9 (by
    rw [hnm]
    intro j hj
    rw [head_add]
    have hr := (MM.Row.new w 5 [.int .u8 x, .int .u8 y, .int .u8 z]).cell j
    rw [show ((w.alloc (.cells #[.int .u8 x, .int .u8 y, .int .u8 z] 5)).cell? ⟨w.heap.size, j, none⟩) = _ from hr]
    have hj' : j = 0 ∨ j = 1 ∨ j = 2 := by simp at hj; omega
    rcases hj' with rfl | rfl | rfl <;> simp <;> omega)
  have e3 : (NP.nmL k).length = 3 := rfl
  rw [e3] at hcv
  have hx1 : 0 ≤ (x : Int) - 97 := by omega
  have hx2 : (x : Int) - 97 ≤ 15 := by omega
  have hy1 : 0 ≤ (y : Int) - 97 := by omega
  have hy2 : (y : Int) - 97 ≤ 15 := by omega
  have hz1 : z ≤ 120 := by omega
  have g1 : (97 : Int) + ((x : Int) - 97) = x := by omega
  have g2 : (97 : Int) + ((y : Int) - 97) = y := by omega
  clear hx hy hz hnm e3
  go_enter Try.func18, Try.ntmps18
  go_wp2
  go_ret
  exact ⟨rfl, (Far.refl _ _).alloc _⟩
def Ful (g : Nat) (w2 : World) (k : Nat) (wr : World) : Prop := ∃ S mv sv, Nm wr g S (NP.nms k) mv sv ∧ (∀ b, b ∈ S → b = g ∨ w2.heap.size ≤ b) ∧ Far [g] w2 wr
theorem ful_put {g : Nat} {w2 wr : World} {k k' : Nat} (h : Ful g w2 k wr) (s : ByteArray) (hs : s.size ≤ maxLen) (i e : Int) (h1 : NP.putI (NP.nms k) s = i ∧ NP.putE (NP.nms k) s = e ∧ NP.putL (NP.nms k) s = NP.nms k') :
    Calls Try.prog 13 #[ptr g, .string s] wr fun x w' => x = .returned (.tuple #[.int .i64 i, .int .i64 e]) ∧ Ful g w2 k' w' := by
  obtain ⟨S, mv, sv, hN, hS, hF⟩ := h
  refine (put_to hN s hs i e _ h1.1 h1.2.1 h1.2.2).mono ?_
  rintro e w' ⟨rfl, S', mv', sv', hN', hF', hS'⟩
  refine ⟨rfl, S', mv', sv', hN', fun b hb => ?_, hF.trans hF' (fun b hb hl => ?_)⟩
  · rcases hS' b hb with h | h
    · exact hS b h
    · right; have := hF.size; omega
  · rcases hS b hb with h | h
    · simp [h]
    · omega
theorem text_nil (i : Int) (w : World) : Calls Try.prog 15 #[.pointer none, .int .i64 i] w fun e w' => e = .returned (.tuple #[.string ⟨#[]⟩, .bool false]) ∧ w = w' := by
  by_cases h0 : i < 0
  · go_enter Try.func15, Try.ntmps15
    go_wp2
    go_ret2
    exact ⟨rfl, rfl⟩
  · have h1 : 0 ≤ i := by omega
    go_enter Try.func15, Try.ntmps15
    go_wp2_with (go_at_call 17; refine (len_nil _).mono ?_; rintro e w' ⟨rfl, rfl⟩)
    go_ret2
    exact ⟨rfl, rfl⟩
set_option maxRecDepth 100000 in
set_option maxHeartbeats 4000000 in
theorem full_any (a : Int) (w : World) (ha : (Lit.int .u16 a).wf = true) :
    Calls Try.prog 5 #[.int .u16 a] w fun e w' => e = .returned (.bool true) ∧ Below w.heap.size w w' := by
  have ha1 : 0 ≤ a ∧ a ≤ 65535 := by simp [Lit.wf, IntKind.min, IntKind.max, IntKind.signed, IntKind.bits] at ha; omega
  obtain ⟨m, rfl⟩ := Int.eq_ofNat_of_zero_le ha1.1
  have hm : m ≤ 65535 := by omega
  clear ha ha1
  go_enter Try.func5, Try.ntmps5
  go_wp2_with (fail)
  refine (shown_any w).mono ?_
  rintro e w1 ⟨rfl, hF1⟩
  go_wp2_with (fail)
  refine (new_any w1).mono ?_
  rintro e w2 ⟨g, rfl, hga, hN, hF2⟩
  have HF2 := Lib.hid (hF1.trans hF2 (by simp))
  have hgl := hN.head.lt
  have hg0 : w.heap.size ≤ g := by have := hF1.size; omega
  have HO := Lib.hid (show Ful g w2 0 w2 from ⟨[g], _, _, hN, by simp, Far.refl _ _⟩)
  clear hF1 hF2 hN
  go_wp2_with (fail)
  go_loopw [27] (fun i wr => ∃ k : Nat, k ≤ 4096 ∧ i = .int .i64 (k : Int) ∧ Hid (Ful g w2 k wr)) (fun i _ => 4096 - (intOf i).toNat)
  case atStart => exact ⟨0, by omega, rfl, HO⟩
  case round =>
    obtain ⟨k, hk, rfl, hO⟩ := hrel
    by_cases hlt : k < 4096
    · have HP := Lib.hid (NP.nms_put hlt)
      go_wp2_with (fail)
      refine (name_any k hlt _).mono ?_
      rintro e w3 ⟨rfl, hF3⟩
      have H3 := Lib.hid (show Ful g w2 k w3 from by obtain ⟨S, mv, sv, a1, a2, a3⟩ := hO.out; exact ⟨S, mv, sv, a1.nil hF3, a2, a3.trans hF3 (by simp)⟩)
      go_wp2_with (fail)
      refine (ful_put H3.out (NP.nm k) (by rw [NP.nm_size]; unfold maxLen; omega) k 0 HP.out).mono ?_
      rintro e w4 ⟨rfl, hO4⟩
      have H4 := Lib.hid hO4
      clear hO4
      go_wp2_with (fail)
      go_roundw
      case rel => exact ⟨k + 1, by omega, by go_num, H4⟩
      case measure => simp [intOf]; omega
    · obtain rfl : k = 4096 := by omega
      go_wp2_with (fail)
      obtain ⟨j, hj⟩ : ∃ j : Nat, j = m % 4096 := ⟨_, rfl⟩
      have hj4 : j < 4096 := by omega
      rw [show ((m : Int) % 4096) = (j : Int) from by omega]
      refine (ful_put hO.out NP.more (by decide) 0 3 NP.full_put).mono ?_
      rintro e w3 ⟨rfl, hO3⟩
      have H3 := Lib.hid hO3
      have HA := Lib.hid (NP.full_again hj4)
      clear hO3 hO hj
      go_wp2_with (fail)
      refine (name_any j hj4 _).mono ?_
      rintro e w4 ⟨rfl, hF4⟩
      have H4 := Lib.hid (show Ful g w2 4096 w4 from by obtain ⟨S, mv, sv, a1, a2, a3⟩ := H3.out; exact ⟨S, mv, sv, a1.nil hF4, a2, a3.trans hF4 (by simp)⟩)
      clear hF4
      go_wp2_with (fail)
      refine (ful_put H4.out (NP.nm j) (by rw [NP.nm_size]; unfold maxLen; omega) j 0 HA.out).mono ?_
      rintro e w5 ⟨rfl, S, mv, sv, hN5, _, hF5⟩
      have H5 := Lib.hid hN5
      have HF5 := Lib.hid hF5
      clear hN5 hF5
      go_wp2_with (fail)
      refine (find_to H5.out NP.more (by decide) 0 false NP.full_find.1 NP.full_find.2).mono ?_
      rintro e w' ⟨rfl, rfl⟩
      go_wp2_with (fail)
      refine (put_nil _ _).mono ?_
      rintro e w' ⟨rfl, rfl⟩
      go_wp2_with (fail)
      refine (find_nil _ _).mono ?_
      rintro e w' ⟨rfl, rfl⟩
      go_wp2_with (fail)
      refine (text_nil _ _).mono ?_
      rintro e w' ⟨rfl, rfl⟩
      go_wp2_with (fail)
      refine (len_to H5.out 4096 (by rw [NP.nms_len]; rfl)).mono ?_
      rintro e w' ⟨rfl, rfl⟩
      go_wp2_with (fail)
      refine (len_nil _).mono ?_
      rintro e w' ⟨rfl, rfl⟩
      go_wp2_with (fail)
      go_ret
      exact ⟨rfl, (HF2.out.trans HF5.out (by simp; omega)).below_nil⟩
end NW
end Go.Proofs.Yteochpfdongcaaa
