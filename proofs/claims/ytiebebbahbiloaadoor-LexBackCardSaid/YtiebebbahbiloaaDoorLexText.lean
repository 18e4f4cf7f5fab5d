/-
  Contracts of the law's own parts of layer 5: digits, text: a token as it is written. Condition: a number is within the bounds.
-/
import Derived.Test.YtiebebbahbiloaaDoorLexPad
import Derived.Test.YtiebebbahbiloaaDoorLexLaws4
import Derived.Maps.OwnOps
import Derived.Maps.Views
import Derived.Maps.StringElems
import Derived.Carry
namespace Go.Proofs.YtiebebbahbiloaaDoor
open Go.RowKit
namespace LX
/-- A digit's byte. -/
def dgc (n : Nat) : UInt8 := UInt8.ofNat (48 + n)
/-- The digits of a number. -/
def dgN : Nat → Nat → List UInt8
  | 0, n => [dgc n]
  | f + 1, n => if 9 < n then dgN f (n / 10) ++ [dgc (n % 10)] else [dgc n]
def dgs (n : Int) : List UInt8 := if n < 0 then 45 :: dgN 20 (-n).toNat else dgN 20 n.toNat
theorem dg_dig {n : Nat} (h : n ≤ 9) : dig (dgc n) = true ∧ ((dgc n).toNat : Int) = 48 + (n : Int) := by
  have e : (dgc n).toNat = 48 + n := by unfold dgc; simp; omega
  refine ⟨by unfold dig; rw [e]; simp; omega, by rw [e]; omega⟩
theorem dgN_ok : ∀ (f n k : Nat), n < 10 ^ (f + 1) → n < 10 ^ (k + 1) → (dgN f n).all dig = true ∧ val (dgN f n) = (n : Int) ∧ dgN f n ≠ [] ∧ (dgN f n).length ≤ k + 1 := by
  intro f
  induction f with
  | zero =>
    intro n k h _
    have h9 : n ≤ 9 := by simp at h; omega
    obtain ⟨a, b⟩ := dg_dig h9
    refine ⟨by simp [dgN, a], ?_, by simp [dgN], by simp [dgN]⟩
    unfold dgN val
    simp only [List.foldl_cons, List.foldl_nil]
    omega
  | succ f ih =>
    intro n k h hk
    unfold dgN
    by_cases h9 : 9 < n
    · rw [if_pos h9]
      have hk0 : 1 ≤ k := by
        rcases Nat.eq_zero_or_pos k with h0 | h0
        · rw [h0] at hk; simp at hk; omega
        · exact h0
      obtain ⟨k', rfl⟩ : ∃ k', k = k' + 1 := ⟨k - 1, by omega⟩
      obtain ⟨i1, i2, i3, i4⟩ := ih (n / 10) k' (by rw [Nat.pow_succ] at h; omega) (by rw [Nat.pow_succ] at hk; omega)
      obtain ⟨a, b⟩ := dg_dig (show n % 10 ≤ 9 by omega)
      refine ⟨?_, ?_, by simp, ?_⟩
      · rw [List.all_append, i1]; simp [a]
      · rw [val_snoc, i2, b]; omega
      · rw [List.length_append]; simp; omega
    · rw [if_neg h9]
      obtain ⟨a, b⟩ := dg_dig (show n ≤ 9 by omega)
      refine ⟨by simp [a], ?_, by simp, by simp⟩
      unfold val
      simp only [List.foldl_cons, List.foldl_nil]
      omega
theorem dgN_snoc (f n : Nat) (h : 9 < n) : dgN (f + 1) n = dgN f (n / 10) ++ [dgc (n % 10)] := by
  rw [dgN, if_pos h]
theorem dgN_few (f n : Nat) (h : ¬ 9 < n) : dgN f n = [dgc n] := by
  cases f with
  | zero => rfl
  | succ f => rw [dgN, if_neg h]
theorem dgN_fuel : ∀ (f n : Nat), n < 10 ^ (f + 1) → dgN (f + 1) n = dgN f n := by
  intro f
  induction f with
  | zero => intro n h; rw [dgN_few _ _ (by simp at h; omega), dgN_few _ _ (by simp at h; omega)]
  | succ f ih =>
    intro n h
    by_cases h9 : 9 < n
    · rw [dgN_snoc _ _ h9, dgN_snoc _ _ h9, ih _ (by rw [Nat.pow_succ] at h; omega)]
    · rw [dgN_few _ _ h9, dgN_few _ _ h9]
/-- A token as it is written. -/
def tkB (t : Tk) : ByteArray :=
  if t.kind = 1 then ⟨#[40]⟩ else if t.kind = 2 then ⟨#[41]⟩ else if t.kind = 3 then ⟨#[39]⟩ else if t.kind = 4 then str (dgs t.n)
  else if t.kind = 5 then (if t.n = 1 then ⟨#[35, 116]⟩ else ⟨#[35, 102]⟩) else t.s
end LX
namespace LW
open LX
theorem str_cat (a b : List UInt8) : str (a ++ b) = str a ++ str b := by
  apply ByteArray.ext
  rw [ByteArray.data_append]
  unfold str
  simp
set_option maxHeartbeats 2000000 in
set_option maxRecDepth 100000 in
theorem digit_one (n : Nat) (h : n ≤ 9) (w : World) : Calls Tryd.prog 20 #[.int .i64 n] w fun e w' => e = .returned (.string (str [dgc n])) ∧ MM.Far [] w w' := by
  obtain ⟨_, hb⟩ := dg_dig h
  obtain ⟨x, hx⟩ : ∃ x, dgc n = x := ⟨_, rfl⟩
  rw [hx] at hb ⊢
  have hcv := byte_back w x
  rw [hb] at hcv
  clear hb hx
  go_enter Tryd.func20, Tryd.ntmps20
  go_wp2
  go_ret
  exact ⟨rfl, (MM.Far.refl _ _).alloc _⟩
theorem call_dg {x y : Int} {w : World} {Q : Ending → World → Prop} (h : x = y) (H : Calls Tryd.prog 20 #[.int .i64 x] w Q) : Calls Tryd.prog 20 #[.int .i64 y] w Q := h ▸ H
set_option maxHeartbeats 2000000 in
set_option maxRecDepth 100000 in
theorem digits_nat : ∀ (f n : Nat), n < 10 ^ (f + 1) → n < 4398046511104 → ∀ w : World, Calls Tryd.prog 20 #[.int .i64 n] w fun e w' => e = .returned (.string (str (dgN f n))) ∧ MM.Far [] w w' := by
  intro f
  induction f with
  | zero =>
    intro n h _ w
    have h9 : n ≤ 9 := by simp at h; omega
    rw [dgN_few _ _ (by omega)]
    exact digit_one n h9 w
  | succ f ih =>
    intro n h hn w
    by_cases h9 : 9 < n
    · have H1 := Lib.hid (ih (n / 10) (by rw [Nat.pow_succ] at h; omega) (by omega))
      have H2 := Lib.hid (digit_one (n % 10) (by omega))
      rw [dgN_snoc _ _ h9, str_cat]
      have hz1 : (str (dgN f (n / 10))).size ≤ 100 := by
        rw [str_size]
        have := (dgN_ok f (n / 10) 12 (by rw [Nat.pow_succ] at h; omega) (by simp; omega)).2.2.2
        omega
      have hz2 : (str [dgc (n % 10)]).size ≤ 1 := by rw [str_size]; exact Nat.le_refl 1
      generalize str (dgN f (n / 10)) = y1 at *
      generalize str [dgc (n % 10)] = y2 at *
      have E1 : Hid ((n : Int) / 10 = ((n / 10 : Nat) : Int)) := Lib.hid (by omega)
      have E2 : Hid ((n : Int) % 10 = ((n % 10 : Nat) : Int)) := Lib.hid (by omega)
      go_enter Tryd.func20, Tryd.ntmps20
      go_wp2_with (first
        | (go_at_call 20; refine Calls.mono (call_dg (x := ((n / 10 : Nat) : Int)) (by with_reducible first | rfl | exact E1.out.symm) (H1.out _)) ?_; rintro e w1 ⟨rfl, hF1⟩; have HF1 := Lib.hid hF1; clear hF1)
        | (go_at_call 20; refine Calls.mono (call_dg (x := ((n % 10 : Nat) : Int)) (by with_reducible first | rfl | exact E2.out.symm) (H2.out _)) ?_; rintro e w2 ⟨rfl, hF2⟩; have HF2 := Lib.hid hF2; clear hF2))
      go_ret
      exact ⟨rfl, HF1.out.trans HF2.out (by simp)⟩
    · rw [dgN_few _ _ h9]
      exact digit_one n (by omega) w
theorem pow21 {n : Nat} (h : n < 4398046511104) : n < 10 ^ (20 + 1) := Nat.lt_of_lt_of_le h (by decide)
theorem dgN_size {n : Nat} (h : n < 4398046511104) : (str (dgN 20 n)).size ≤ 13 := by
  rw [str_size]
  exact (dgN_ok 20 n 12 (pow21 h) (Nat.lt_of_lt_of_le h (by decide))).2.2.2
set_option maxHeartbeats 2000000 in
set_option maxRecDepth 100000 in
theorem digits_any (n : Int) (h1 : -4398046511104 < n) (h2 : n < 4398046511104) (w : World) : Calls Tryd.prog 20 #[.int .i64 n] w fun e w' => e = .returned (.string (str (dgs n))) ∧ MM.Far [] w w' := by
  by_cases h : n < 0
  · have e : str (dgs n) = ⟨#[45]⟩ ++ str (dgN 20 (-n).toNat) := by
      unfold dgs
      rw [if_pos h]
      exact str_cat [45] _
    rw [e]
    have H := Lib.hid (digits_nat 20 (-n).toNat (pow21 (by omega)) (by omega))
    have hz := dgN_size (n := (-n).toNat) (by omega)
    generalize str (dgN 20 (-n).toNat) = y at *
    have E1 : Hid (((-n).toNat : Int) = -n) := Lib.hid (by omega)
    clear e
    go_enter Tryd.func20, Tryd.ntmps20
    go_wp2_with (go_at_call 20; refine Calls.mono (call_dg (x := ((-n).toNat : Int)) (by with_reducible exact E1.out) (H.out _)) ?_; rintro e w1 ⟨rfl, hF1⟩; have HF1 := Lib.hid hF1; clear hF1)
    go_ret
    exact ⟨rfl, HF1.out⟩
  · have e : dgs n = dgN 20 n.toNat := by unfold dgs; rw [if_neg h]
    rw [e]
    have := digits_nat 20 n.toNat (pow21 (by omega)) (by omega) w
    rw [show ((n.toNat : Nat) : Int) = n by omega] at this
    exact this
theorem str_zero (w : World) : (zeroValue 9).run Tryd.prog w = .ok (.string ⟨#[]⟩) w := by kernel_rfl
/-- The law's own map of the two marks. -/
theorem marks_map (W0 : World) (c : Bool) : ∃ w1 w2,
    (Instr.mapUpdate 48 (.map (some W0.heap.size)) (.bool true) (.string ⟨#[35, 116]⟩)).run Tryd.prog (W0.alloc (.map #[] 0)) = .ok () w1 ∧
    (Instr.mapUpdate 48 (.map (some W0.heap.size)) (.bool false) (.string ⟨#[35, 102]⟩)).run Tryd.prog w1 = .ok () w2 ∧
    (Instr.lookup 48 (.map (some W0.heap.size)) (.bool c) false).run Tryd.prog w2 = .ok (.string (if c = true then ⟨#[35, 116]⟩ else ⟨#[35, 102]⟩)) w2 ∧ MM.Far [] W0 w2 := by
  have K : Maps.Keyed Tryd.prog 4 := Maps.bool_keyed Tryd.underlying4
  have h0 := World.ownsMap_made W0 Tryd.prog 4 (plainElem (H := Unit) Tryd.prog 9)
  obtain ⟨w1, r1, h1, g1⟩ := h0.update K Tryd.underlying48 (by unfold maxLen; omega) (Maps.keyOf_bool_mk Tryd.underlying4 true) (plainElem_string Tryd.underlying9 (s := ⟨#[35, 116]⟩) (by decide))
  obtain ⟨w2, r2, h2, g2⟩ := h1.update K Tryd.underlying48 (by unfold maxLen; omega) (Maps.keyOf_bool_mk Tryd.underlying4 false) (plainElem_string Tryd.underlying9 (s := ⟨#[35, 102]⟩) (by decide))
  obtain ⟨v, ps, r3, hv⟩ := h2.lookup K Tryd.underlying48 (str_zero w2) (plainElem_string Tryd.underlying9 (s := ⟨#[]⟩) (by decide)) (Maps.keyOf_bool_mk Tryd.underlying4 c)
  obtain ⟨s, rfl, hs, _⟩ := plainElem_string_inv Tryd.underlying9 hv
  simp only [Prod.mk.injEq] at hs
  have hs := hs.1
  have e : s = if c = true then ⟨#[35, 116]⟩ else ⟨#[35, 102]⟩ := by
    have hd : s.data.toList = if c = true then [35, 116] else [35, 102] := by
      cases c with
      | true => exact (Lit.string.inj (DataW.lit.inj (show DataW.lit (H := Unit) (.string [35, 116]) = _ from hs))).symm
      | false => exact (Lit.string.inj (DataW.lit.inj (show DataW.lit (H := Unit) (.string [35, 102]) = _ from hs))).symm
    apply ByteArray.ext
    apply Array.toList_inj.1
    rw [hd]
    cases c <;> rfl
  rw [e] at r3
  refine ⟨w1, w2, r1, r2, r3, ?_⟩
  have F1 : MM.Far [W0.heap.size] (W0.alloc (.map #[] 0)) w1 := MM.Far.of_grown g1 (fun b hb _ => by simp at hb; simp [hb])
  have F2 : MM.Far [W0.heap.size] w1 w2 := MM.Far.of_grown g2 (fun b hb _ => by simp at hb; simp [hb])
  exact (((MM.Far.refl [] W0).alloc _).trans F1 (fun b hb hl => by simp at hb; omega)).trans F2 (fun b hb hl => by simp at hb; omega)
set_option maxHeartbeats 2000000 in
theorem text_any (kd at_ n : Int) (s : ByteArray) (hk : kd = 1 ∨ kd = 2 ∨ kd = 3 ∨ kd = 4 ∨ kd = 5 ∨ kd = 6) (h1 : -1099511627776 < n) (h2 : n < 1099511627776) (w : World) :
    Calls Tryd.prog 13 #[.agg #[.int .u8 kd, .int .i64 at_, .int .i64 n, .string s]] w fun e w' => e = .returned (.string (tkB ⟨kd, at_, n, s⟩)) ∧ MM.Far [] w w' := by
  rcases hk with rfl | rfl | rfl | rfl | rfl | rfl
  · rw [show tkB ⟨1, at_, n, s⟩ = ⟨#[40]⟩ from rfl]
    go_enter Tryd.func13, Tryd.ntmps13
    go_wp2
    go_ret
    exact ⟨rfl, (MM.Far.refl _ _).alloc _⟩
  · rw [show tkB ⟨2, at_, n, s⟩ = ⟨#[41]⟩ from rfl]
    go_enter Tryd.func13, Tryd.ntmps13
    go_wp2
    go_ret
    exact ⟨rfl, (MM.Far.refl _ _).alloc _⟩
  · rw [show tkB ⟨3, at_, n, s⟩ = ⟨#[39]⟩ from rfl]
    go_enter Tryd.func13, Tryd.ntmps13
    go_wp2
    go_ret
    exact ⟨rfl, (MM.Far.refl _ _).alloc _⟩
  · rw [show tkB ⟨4, at_, n, s⟩ = str (dgs n) from rfl]
    have H := Lib.hid (digits_any n (by omega) (by omega))
    generalize str (dgs n) = y at *
    clear h1 h2
    go_enter Tryd.func13, Tryd.ntmps13
    go_wp2_with (go_at_call 20; refine (H.out _).mono ?_; rintro e w1 ⟨rfl, hF1⟩; have HF1 := Lib.hid hF1; clear hF1)
    go_ret
    exact ⟨rfl, ((MM.Far.refl _ _).alloc _).trans HF1.out (by simp)⟩
  · by_cases hn : n = 1
    · subst hn
      rw [show tkB ⟨5, at_, 1, s⟩ = ⟨#[35, 116]⟩ from rfl]
      clear h1 h2
      have hmm : ∀ W : World, (Instr.makeMap 48 none).run Tryd.prog W = .ok (.map (some W.heap.size)) (W.alloc (.map #[] 0)) := fun W => run_makeMap _ W
      obtain ⟨w1, w2, r1, r2, r3, hF⟩ := marks_map (w.alloc (.cells #[.int .u8 5, .int .i64 at_, .int .i64 1, .string s] 30)) true
      have hsz : (w.alloc (.cells #[.int .u8 5, .int .i64 at_, .int .i64 1, .string s] 30)).heap.size = w.heap.size + 1 := by simp
      rw [hsz] at r1 r2 r3
      have hc := ((MM.Row.new w 30 [.int .u8 5, .int .i64 at_, .int .i64 1, .string s]).far hF (by simp)).at (i := 2) rfl
      have HF := Lib.hid (((MM.Far.refl [] w).alloc _).trans hF (by simp))
      clear hF hsz
      go_enter Tryd.func13, Tryd.ntmps13
      go_wp2
      go_ret
      exact ⟨rfl, HF.out⟩
    · have e : tkB ⟨5, at_, n, s⟩ = ⟨#[35, 102]⟩ := by unfold tkB; simp [hn]
      rw [e]
      have d1 : (n == 1) = false := by rw [beq_eq_false_iff_ne]; exact hn
      clear e hn
      clear h1 h2
      have hmm : ∀ W : World, (Instr.makeMap 48 none).run Tryd.prog W = .ok (.map (some W.heap.size)) (W.alloc (.map #[] 0)) := fun W => run_makeMap _ W
      obtain ⟨w1, w2, r1, r2, r3, hF⟩ := marks_map (w.alloc (.cells #[.int .u8 5, .int .i64 at_, .int .i64 n, .string s] 30)) false
      have hsz : (w.alloc (.cells #[.int .u8 5, .int .i64 at_, .int .i64 n, .string s] 30)).heap.size = w.heap.size + 1 := by simp
      rw [hsz] at r1 r2 r3
      have hc := ((MM.Row.new w 30 [.int .u8 5, .int .i64 at_, .int .i64 n, .string s]).far hF (by simp)).at (i := 2) rfl
      have HF := Lib.hid (((MM.Far.refl [] w).alloc _).trans hF (by simp))
      clear hF hsz
      go_enter Tryd.func13, Tryd.ntmps13
      go_wp2
      go_ret
      exact ⟨rfl, HF.out⟩
  · rw [show tkB ⟨6, at_, n, s⟩ = s from rfl]
    go_enter Tryd.func13, Tryd.ntmps13
    go_wp2
    go_ret
    exact ⟨rfl, (MM.Far.refl _ _).alloc _⟩
end LW
end Go.Proofs.YtiebebbahbiloaaDoor
