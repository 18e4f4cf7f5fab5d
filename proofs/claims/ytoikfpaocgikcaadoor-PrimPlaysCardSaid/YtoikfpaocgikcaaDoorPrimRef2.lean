/-
  Contract of the document's Do of layer 10, whatever it is handed. Conditions: the document's row of things, words lie in 64 bits.
-/
import Derived.Test.YtoikfpaocgikcaaDoorPrimRef
namespace Go.Proofs.YtoikfpaocgikcaaDoor
open Go.RowKit
set_option linter.unusedVariables false
namespace PW
open AW AL
/-- What the document's Do leaves. -/
def QR (base q n : Nat) (a b : Int) (T : List AP.Th) (w : World) (e : Ending) (w' : World) : Prop := e = .returned (.tuple #[.int .u64 a, .int .i64 b]) ∧ ∃ v' hs', RW.Rr w' base q n v' T hs' ∧ RW.Fr q base w w'
theorem QR.of {base q n : Nat} {ts : List AP.Th} {v : Value} {hs : List Value} {a b a' b' : Int} {T : List AP.Th} {w : World} (hR : RW.Rr w base q n v ts hs) (ha : a = a') (hb : b = b') (hT : ts = T) {e : Ending} {w' : World} (h0 : e = .returned (.tuple #[.int .u64 a, .int .i64 b]) ∧ MM.Far [] w w') : QR base q n a' b' T w e w' := by
  subst ha hb hT
  exact ⟨h0.1, v, hs, hR.far h0.2 (by simp), RW.Fr.of_nil h0.2⟩
theorem far_eq {w w' : World} (h : w = w') : MM.Far [] w w' := h ▸ MM.Far.refl _ _
section
variable {w : World} {base q n : Nat} {v : Value} {ts : List AP.Th} {hs : List Value}
theorem rdo_one (hR : RW.Rr w base q n v ts hs) (k : Nat) (hk : k < 18) (h9 : 9 ≤ k) (h12 : k ≠ 12) (x : Int) (hx : WP.U x) (A : Option Addr) (c : Nat) (hs : MM.Src w [] A (U64s [x])) :
    Calls Tryd.prog 15 #[ptr q, .int .i64 k, .slice A 1 c] w (QR base q n (PP.valW n ts k x 0) (PP.valE n ts k x 0) ts w) := by
  obtain ⟨b, o, rfl, a1⟩ := src1 hs hx
  match k, hk, h9, h12 with
  | 9, _, _, _ => exact (rdo_9 hR b o c x a1).mono fun e w' h => QR.of hR rfl rfl rfl ⟨h.1, far_eq h.2⟩
  | 10, _, _, _ => exact (rdo_10 hR b o c x a1).mono fun e w' h => QR.of hR rfl rfl rfl ⟨h.1, far_eq h.2⟩
  | 11, _, _, _ => exact (rdo_11 hR b o c x a1).mono fun e w' h => QR.of hR rfl rfl rfl ⟨h.1, far_eq h.2⟩
  | 12, _, _, h => exact absurd rfl h
  | 13, _, _, _ => exact (rdo_13 hR b o c x a1).mono fun e w' h => QR.of hR rfl rfl rfl ⟨h.1, far_eq h.2⟩
  | 14, _, _, _ => exact (rdo_14 hR b o c x a1).mono fun e w' h => QR.of hR rfl rfl rfl ⟨h.1, far_eq h.2⟩
  | 15, _, _, _ => exact (rdo_15 hR b o c x a1).mono fun e w' h => QR.of hR rfl rfl rfl ⟨h.1, far_eq h.2⟩
  | 16, _, _, _ => exact (rdo_16 hR b o c x a1).mono fun e w' h => QR.of hR rfl rfl rfl ⟨h.1, far_eq h.2⟩
  | 17, _, _, _ => exact (rdo_17 hR b o c x a1).mono fun e w' h => QR.of hR rfl rfl rfl ⟨h.1, far_eq h.2⟩
  | j + 18, h, _, _ => omega
theorem rdo_two (hR : RW.Rr w base q n v ts hs) (hb : base ≤ w.heap.size) (k : Nat) (h1 : 1 ≤ k) (h8 : k ≤ 8 ∨ k = 12) (x y : Int) (hx : WP.U x) (hy : WP.U y) (A : Option Addr) (c : Nat) (hs : MM.Src w [] A (U64s [x, y])) :
    Calls Tryd.prog 15 #[ptr q, .int .i64 k, .slice A 2 c] w (QR base q n (PP.valW n ts k x y) (PP.valE n ts k x y) (if k = 12 then allT n ts 1 [x, y] else ts) w) := by
  obtain ⟨b, o, rfl, a2, _, hl⟩ := src2 hs hx hy
  by_cases h7 : k ≤ 7
  · obtain ⟨j, rfl⟩ : ∃ j, k = j + 1 := ⟨k - 1, by omega⟩
    rw [show ((j + 1 : Nat) : Int) = (j : Int) + 1 from by omega]
    refine (rdo_num (ptr q) j b o c x y a2 (by omega)).mono fun e w' => QR.of hR ?_ ?_ ?_
    · unfold PP.valW; rw [if_pos (by omega)]
    · unfold PP.valE; rw [if_pos (by omega)]
    · rw [if_neg (by omega)]
  · by_cases h12 : k = 12
    · subst h12
      exact (rdo_12 hR hb b o c x y a2).mono fun e w' hq => ⟨hq.1, hq.2⟩
    · obtain rfl : k = 8 := by omega
      exact (rdo_8 hR b o c x y a2).mono fun e w' h => QR.of hR rfl rfl rfl ⟨h.1, far_eq h.2⟩
theorem rdo_any (hR : RW.Rr w base q n v ts hs) (hb : base ≤ w.heap.size) (op : Int) (A : Option Addr) (c : Nat) (l : List Int) (hm : l.length ≤ 9223372036854775807) (hu : ∀ x ∈ l, WP.U x) (hs : MM.Src w [] A (U64s l)) :
    Calls Tryd.prog 15 #[ptr q, .int .i64 op, .slice A l.length c] w (QR base q n (PP.doW n ts op l) (PP.doE n ts op l) (PP.doT n ts op l) w) := by
  by_cases hok : PP.okB op l.length = true
  · obtain ⟨h1, h2, h3⟩ := (PP.okB_iff _ _).1 hok
    have e1 : PP.doW n ts op l = PP.valW n ts op (l.getD 0 0) (l.getD 1 0) := by unfold PP.doW; rw [if_pos hok]
    have e2 : PP.doE n ts op l = PP.valE n ts op (l.getD 0 0) (l.getD 1 0) := by unfold PP.doE; rw [if_pos hok]
    have e3 : PP.doT n ts op l = if op = 12 then allT n ts 1 l else ts := by
      unfold PP.doT
      rw [hok, Bool.true_and]
      by_cases h : op = 12
      · rw [if_pos h, if_pos (by simpa using h)]
      · rw [if_neg h, if_neg (by simpa using h)]
    rw [e1, e2, e3]
    obtain ⟨k, rfl⟩ : ∃ k : Nat, op = k := ⟨op.toNat, by omega⟩
    rcases PP.cnt_cases k h1 h2 with ⟨hc, hr⟩ | ⟨hc, hr⟩
    · rw [hc] at h3
      match l, h3, hu, hs with
      | [x, y], _, hu, hs =>
        have := rdo_two hR hb k (by omega) (by omega) x y (hu x (by simp)) (hu y (by simp)) A c hs
        have e4 : (if k = 12 then allT n ts 1 [x, y] else ts) = (if (k : Int) = 12 then allT n ts 1 [x, y] else ts) := by
          by_cases h : k = 12
          · rw [if_pos h, if_pos (by omega)]
          · rw [if_neg h, if_neg (by omega)]
        rw [e4] at this
        exact this
      | [], h3, _, _ => simp at h3
      | [_], h3, _, _ => simp at h3
      | _ :: _ :: _ :: _, h3, _, _ => simp at h3; omega
    · rw [hc] at h3
      match l, h3, hu, hs with
      | [x], _, hu, hs =>
        have := rdo_one hR k (by omega) (by omega) (by omega) x (hu x (by simp)) A c hs
        rw [if_neg (by omega)]
        exact this
      | [], h3, _, _ => simp at h3
      | _ :: _ :: _, h3, _, _ => simp at h3; omega
  · have hok : PP.okB op l.length = false := by simpa using hok
    have e1 : PP.doW n ts op l = 0 := by unfold PP.doW; rw [hok]; rfl
    have e2 : PP.doE n ts op l = 1 := by unfold PP.doE; rw [hok]; rfl
    have e3 : PP.doT n ts op l = ts := by unfold PP.doT; rw [hok]; rfl
    rw [e1, e2, e3]
    by_cases h1 : op < 1
    · exact (rdo_lo (ptr q) op A l.length c hm h1).mono fun e w' hq => QR.of hR rfl rfl rfl ⟨hq.1, far_eq hq.2⟩
    · by_cases h2 : 17 < op
      · exact (rdo_hi (ptr q) op A l.length c hm h2).mono fun e w' hq => QR.of hR rfl rfl rfl ⟨hq.1, far_eq hq.2⟩
      · refine (rdo_many (ptr q) op A l.length c hm (by omega) (by omega) ?_).mono fun e w' hq => QR.of hR rfl rfl rfl ⟨hq.1, far_eq hq.2⟩
        intro h3
        have : PP.okB op l.length = true := (PP.okB_iff _ _).2 ⟨by omega, by omega, h3⟩
        rw [hok] at this; cases this
end
end PW
end Go.Proofs.YtoikfpaocgikcaaDoor
