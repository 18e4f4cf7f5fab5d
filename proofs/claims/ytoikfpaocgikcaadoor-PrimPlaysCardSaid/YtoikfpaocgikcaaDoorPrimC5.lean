/-
  Contract of layer 10's code: Do, whatever it is handed, in one. Conditions: the arena's rows are as the list of things says, words lie in 64 bits, the tables are as laid.
-/
import Derived.Test.YtoikfpaocgikcaaDoorPrimC4
namespace Go.Proofs.YtoikfpaocgikcaaDoor
open Go.RowKit
set_option linter.unusedVariables false
namespace PW
open AW AL
theorem src1 {w : World} {S : List Nat} {A : Option Addr} {x : Int} (h : MM.Src w S A (U64s [x])) (hu : WP.U x) : ∃ b o, A = some ⟨b, o, none⟩ ∧ A1 w b o x := by
  obtain ⟨⟨b, o, spot⟩, rfl, hb, hl, hc⟩ := h (by simp [U64s])
  have h0 := hc 0 (.int .u64 x) rfl
  have hs : spot = none := by simpa [Addr.add] using World.cell?_spot h0
  subst hs
  exact ⟨b, o, rfl, by simpa [Addr.add] using h0, hu⟩
theorem src2 {w : World} {S : List Nat} {A : Option Addr} {x y : Int} (h : MM.Src w S A (U64s [x, y])) (hu : WP.U x) (hv : WP.U y) : ∃ b o, A = some ⟨b, o, none⟩ ∧ A2 w b o x y ∧ b ∉ S ∧ b < w.heap.size := by
  obtain ⟨⟨b, o, spot⟩, rfl, hb, hl, hc⟩ := h (by simp [U64s])
  have h0 := hc 0 (.int .u64 x) rfl
  have h1 := hc 1 (.int .u64 y) rfl
  have hs : spot = none := by simpa [Addr.add] using World.cell?_spot h0
  subst hs
  exact ⟨b, o, rfl, ⟨by simpa [Addr.add] using h0, by simpa [Addr.add] using h1, hu, hv⟩, hb, hl⟩
/-- Answers of a call that changes nothing. -/
def Q0 (a b : Int) (w : World) (e : Ending) (w' : World) : Prop := e = .returned (.tuple #[.int .u64 a, .int .i64 b]) ∧ MM.Far [] w w'
/-- What Do leaves. -/
def QD (p g h n : Nat) (a b : Int) (T : List AP.Th) (w : World) (e : Ending) (w' : World) : Prop := e = .returned (.tuple #[.int .u64 a, .int .i64 b]) ∧ Ar w' p g h n T ∧ MM.Far [p, g, h] w w'
theorem QD.of {p g h n : Nat} {ts : List AP.Th} {a b a' b' : Int} {T : List AP.Th} {w : World} (hA : Ar w p g h n ts) (ha : a = a') (hb : b = b') (hT : ts = T) {e : Ending} {w' : World} (h0 : e = .returned (.tuple #[.int .u64 a, .int .i64 b]) ∧ MM.Far [] w w') : QD p g h n a' b' T w e w' := by
  subst ha hb hT
  exact ⟨h0.1, hA.far h0.2 (by simp) (by simp) (by simp), h0.2.mono (by simp)⟩
section
variable {w : World} {p g h n : Nat} {ts : List AP.Th}
theorem do_one (hT : CT w) (hA : Ar w p g h n ts) (k : Nat) (hk : k < 18) (h9 : 9 ≤ k) (h12 : k ≠ 12) (x : Int) (hx : WP.U x) (A : Option Addr) (c : Nat) (hs : MM.Src w [p, g, h] A (U64s [x])) :
    Calls Tryd.prog 14 #[ptr p, .int .i64 k, .slice A 1 c] w (QD p g h n (PP.valW n ts k x 0) (PP.valE n ts k x 0) ts w) := by
  obtain ⟨b, o, rfl, a1⟩ := src1 hs hx
  match k, hk, h9, h12 with
  | 9, _, _, _ => exact (do_9 hT (ptr p) b o c x a1).mono fun e w' => QD.of hA rfl rfl rfl
  | 10, _, _, _ => exact (do_10 hT (ptr p) b o c x a1).mono fun e w' => QD.of hA rfl rfl rfl
  | 11, _, _, _ => exact (do_11 hT hA b o c x a1).mono fun e w' => QD.of hA rfl rfl rfl
  | 12, _, _, h => exact absurd rfl h
  | 13, _, _, _ => exact (do_13 hT hA b o c x a1).mono fun e w' => QD.of hA rfl rfl rfl
  | 14, _, _, _ => exact (do_14 hT hA b o c x a1).mono fun e w' => QD.of hA rfl rfl rfl
  | 15, _, _, _ => exact (do_15 hT (ptr p) b o c x a1).mono fun e w' => QD.of hA rfl rfl rfl
  | 16, _, _, _ => exact (do_16 hT (ptr p) b o c x a1).mono fun e w' => QD.of hA rfl rfl rfl
  | 17, _, _, _ => exact (do_17 hT hA b o c x a1).mono fun e w' => QD.of hA rfl rfl rfl
  | j + 18, h, _, _ => omega
theorem do_two (hT : CT w) (hA : Ar w p g h n ts) (k : Nat) (h1 : 1 ≤ k) (h8 : k ≤ 8 ∨ k = 12) (x y : Int) (hx : WP.U x) (hy : WP.U y) (A : Option Addr) (c : Nat) (hs : MM.Src w [p, g, h] A (U64s [x, y])) :
    Calls Tryd.prog 14 #[ptr p, .int .i64 k, .slice A 2 c] w (QD p g h n (PP.valW n ts k x y) (PP.valE n ts k x y) (if k = 12 then allT n ts 1 [x, y] else ts) w) := by
  obtain ⟨b, o, rfl, a2, hb, hl⟩ := src2 hs hx hy
  by_cases h7 : k ≤ 7
  · refine (do_num hT (ptr p) k b o c x y a2 h1 h7).mono fun e w' => QD.of hA ?_ ?_ ?_
    · unfold PP.valW; rw [if_pos (by omega)]
    · unfold PP.valE; rw [if_pos (by omega)]
    · rw [if_neg (by omega)]
  · by_cases h12 : k = 12
    · subst h12
      exact (do_12 hT hA b o c x y a2 hb hl).mono fun e w' hq => ⟨hq.1, hq.2.1, hq.2.2⟩
    · obtain rfl : k = 8 := by omega
      exact (do_8 hT (ptr p) b o c x y a2).mono fun e w' => QD.of hA rfl rfl rfl
theorem do_any (hT : CT w) (hA : Ar w p g h n ts) (op : Int) (A : Option Addr) (c : Nat) (l : List Int) (hm : l.length ≤ 9223372036854775807) (hu : ∀ x ∈ l, WP.U x) (hs : MM.Src w [p, g, h] A (U64s l)) :
    Calls Tryd.prog 14 #[ptr p, .int .i64 op, .slice A l.length c] w (QD p g h n (PP.doW n ts op l) (PP.doE n ts op l) (PP.doT n ts op l) w) := by
  by_cases hok : PP.okB op l.length = true
  · obtain ⟨h1, h2, h3⟩ := (PP.okB_iff _ _).1 hok
    have e1 : PP.doW n ts op l = PP.valW n ts op (l.getD 0 0) (l.getD 1 0) := by unfold PP.doW; rw [if_pos hok]
    have e2 : PP.doE n ts op l = PP.valE n ts op (l.getD 0 0) (l.getD 1 0) := by unfold PP.doE; rw [if_pos hok]
    have e3 : PP.doT n ts op l = if op = 12 then allT n ts 1 l else ts := by
      unfold PP.doT
      rw [hok, Bool.true_and]
      by_cases h : op = 12
      · rw [if_pos h, if_pos (by simpa using h)]
      · rw [if_neg h, if_neg (by simpa using h)]
    rw [e1, e2, e3]
    obtain ⟨k, rfl⟩ : ∃ k : Nat, op = k := ⟨op.toNat, by omega⟩
    rcases PP.cnt_cases k h1 h2 with ⟨hc, hr⟩ | ⟨hc, hr⟩
    · rw [hc] at h3
      match l, h3, hu, hs with
      | [x, y], _, hu, hs =>
        have := do_two hT hA k (by omega) (by omega) x y (hu x (by simp)) (hu y (by simp)) A c hs
        have e4 : (if k = 12 then allT n ts 1 [x, y] else ts) = (if (k : Int) = 12 then allT n ts 1 [x, y] else ts) := by
          by_cases h : k = 12
          · rw [if_pos h, if_pos (by omega)]
          · rw [if_neg h, if_neg (by omega)]
        rw [e4] at this
        exact this
      | [], h3, _, _ => simp at h3
      | [_], h3, _, _ => simp at h3
      | _ :: _ :: _ :: _, h3, _, _ => simp at h3; omega
    · rw [hc] at h3
      match l, h3, hu, hs with
      | [x], _, hu, hs =>
        have := do_one hT hA k (by omega) (by omega) (by omega) x (hu x (by simp)) A c hs
        rw [if_neg (by omega)]
        exact this
      | [], h3, _, _ => simp at h3
      | _ :: _ :: _, h3, _, _ => simp at h3; omega
  · have hok : PP.okB op l.length = false := by simpa using hok
    have e1 : PP.doW n ts op l = 0 := by unfold PP.doW; rw [hok]; rfl
    have e2 : PP.doE n ts op l = 1 := by unfold PP.doE; rw [hok]; rfl
    have e3 : PP.doT n ts op l = ts := by unfold PP.doT; rw [hok]; rfl
    rw [e1, e2, e3]
    by_cases h1 : op < 1
    · exact (do_lo (ptr p) op A l.length c hm h1).mono fun e w' hq => QD.of hA rfl rfl rfl ⟨hq.1, by rw [← hq.2]; exact MM.Far.refl _ _⟩
    · by_cases h2 : 17 < op
      · exact (do_hi (ptr p) op A l.length c hm h2).mono fun e w' hq => QD.of hA rfl rfl rfl ⟨hq.1, by rw [← hq.2]; exact MM.Far.refl _ _⟩
      · refine (do_many hT (ptr p) op A l.length c hm (by omega) (by omega) ?_).mono fun e w' hq => QD.of hA rfl rfl rfl ⟨hq.1, by rw [← hq.2]; exact MM.Far.refl _ _⟩
        intro h3
        have : PP.okB op l.length = true := (PP.okB_iff _ _).2 ⟨by omega, by omega, h3⟩
        rw [hok] at this; cases this
/-- Do, its answers spelled as the caller wants them. -/
theorem do_to (hT : CT w) (hA : Ar w p g h n ts) (op : Int) (A : Option Addr) (m c : Nat) (l : List Int) (W E : Int) (T : List AP.Th) (hm : l.length = m) (hm3 : m ≤ 9223372036854775807) (hu : ∀ x ∈ l, WP.U x)
    (hW : PP.doW n ts op l = W) (hE : PP.doE n ts op l = E) (hTT : PP.doT n ts op l = T) (hs : MM.Src w [p, g, h] A (U64s l)) :
    Calls Tryd.prog 14 #[ptr p, .int .i64 op, .slice A m c] w fun e w' => e = .returned (.tuple #[.int .u64 W, .int .i64 E]) ∧ Ar w' p g h n T ∧ MM.Far [p, g, h] w w' := by
  subst hm hW hE hTT
  exact do_any hT hA op A c l hm3 hu hs
end
end PW
end Go.Proofs.YtoikfpaocgikcaaDoor
