/-
  The example shown, and P5.1's first law. No condition.
-/
import Derived.Test.YtiebebbahbiloaaDoorLexCode
namespace Go.Proofs.YtiebebbahbiloaaDoor
open Go.RowKit
namespace LX
def shownT : List Tk := [⟨1, 0, 0, emp⟩, ⟨6, 1, 0, ⟨#[43]⟩⟩, ⟨4, 3, -2, emp⟩, ⟨6, 6, 0, ⟨#[120]⟩⟩, ⟨2, 7, 0, emp⟩]
theorem lexF_len (f : Nat) : ∀ (l : List UInt8) (a : Nat) (out ts : List Tk), lexF f l a out = .ok ts → ts.length ≤ out.length + f := by
  induction f with
  | zero => intro l a out ts h; simp [lexF] at h; subst h; omega
  | succ f ih =>
    intro l a out ts h
    cases l with
    | nil => simp [lexF] at h; subst h; omega
    | cons c r =>
      simp only [lexF] at h
      cases hs : step (c :: r) with
      | err e => rw [hs] at h; cases h
      | skip k => rw [hs] at h; have := ih _ _ _ _ h; omega
      | tok kd n s k => rw [hs] at h; have := ih _ _ _ _ h; simp at this; omega
theorem lex_len {s : ByteArray} {ts : List Tk} (h : lex s = .ok ts) : ts.length ≤ s.size ∧ s.size ≤ 4000 := by
  unfold lex at h
  split at h
  · cases h
  · have := lexF_len _ _ _ _ _ h
    have e : (bts s).length = s.size := by unfold bts; rw [Array.length_toList]; rfl
    simp at this
    omega
theorem shown_lex : lex ⟨#[40, 43, 32, 45, 50, 32, 120, 41]⟩ = .ok shownT := by kernel_rfl
end LX
namespace LW
open LX
set_option maxHeartbeats 1000000 in
theorem shown_any (w : World) : Calls Tryd.prog 9 #[] w fun e w' => e = .returned (.bool true) ∧ MM.Far [] w w' := by
  have H := Lib.hid (lex_q ⟨#[40, 43, 32, 45, 50, 32, 120, 41]⟩ (by decide))
  rw [shown_lex] at H
  go_enter Tryd.func9, Tryd.ntmps9
  go_wp2_with (first
    | (go_at_call 10; refine (H.out _).mono ?_; rintro e w2 ⟨h1, A, c, rfl, h2, h3, h4, h5⟩; have HF := Lib.hid h1; have HT := Lib.hid (TkRow.of_src h5); clear h1 h4 h5)
    | (go_at_call 12; refine (same_yes shownT 5 rfl (by omega) _ _ _ _ _ (HT.out.far ((MM.Far.refl [] w2).alloc _)) (TkRow.of_src (MM.Src.row (S := []) (MM.Row.new w2 30 (tks shownT)) (by simp) _ (fun j u hu => hu)))).mono ?_; rintro e w3 ⟨rfl, h6⟩))
  go_ret
  exact ⟨rfl, HF.out.trans (((MM.Far.refl [] w2).alloc _).trans h6 (by simp)) (by simp)⟩
theorem tkrow_nil (w : World) (A : Option Addr) : TkRow w A [] := fun k h => by simp at h
set_option maxHeartbeats 1000000 in
theorem plays_any (s : ByteArray) (w : World) : Calls Tryd.prog 3 #[.string s] w fun e w' => e = .returned (.bool true) ∧ Below w.heap.size w w' := by
  have HS := Lib.hid shown_any
  by_cases h5 : 5000 < s.size
  · go_enter Tryd.func3, Tryd.ntmps3
    go_wp2_with (go_at_call 9; refine (HS.out _).mono ?_; rintro e w1 ⟨rfl, hF1⟩)
    go_ret
    exact ⟨rfl, hF1.below_nil⟩
  · have H1 := Lib.hid (lex_q s (by omega))
    have H2 := Lib.hid (rlex_q s (by omega))
    cases hR : LX.lex s with
    | error px =>
      rw [hR] at H1 H2
      obtain ⟨p, x⟩ := px
      clear hR
      go_enter Tryd.func3, Tryd.ntmps3
      go_wp2_with (first
        | (go_at_call 9; refine (HS.out _).mono ?_; rintro e w1 ⟨rfl, hF1⟩)
        | (go_at_call 10; refine (H1.out _).mono ?_; rintro e w2 ⟨hF2, A1, c1, rfl, -⟩)
        | (go_at_call 11; refine (H2.out _).mono ?_; rintro e w3 ⟨hF3, A2, c2, rfl, -⟩)
        | (go_at_call 12; refine (same_yes [] 0 rfl (by omega) A1 A2 c1 c2 w3 (tkrow_nil _ _) (tkrow_nil _ _)).mono ?_; rintro e w4 ⟨rfl, hF4⟩))
      go_ret
      exact ⟨rfl, (((hF1.trans hF2 (by simp)).trans hF3 (by simp)).trans hF4 (by simp)).below_nil⟩
    | ok ts =>
      rw [hR] at H1 H2
      have hlen := lex_len hR
      obtain ⟨n, hn⟩ : ∃ n, ts.length = n := ⟨_, rfl⟩
      have hn5 : n ≤ 5000 := by omega
      have HN := Lib.hid hn
      unfold LexQ at H1 H2
      simp only [hn] at H1 H2
      clear hR hlen hn
      go_enter Tryd.func3, Tryd.ntmps3
      go_wp2_with (first
        | (go_at_call 9; refine (HS.out _).mono ?_; rintro e w1 ⟨rfl, hF1⟩)
        | (go_at_call 10; refine (H1.out _).mono ?_; rintro e w2 ⟨hF2, A1, c1, rfl, _, _, _, h1⟩; have HT1 := Lib.hid (TkRow.of_src h1); clear h1)
        | (go_at_call 11; refine (H2.out _).mono ?_; rintro e w3 ⟨hF3, A2, c2, rfl, _, _, _, h1⟩; have HT2 := Lib.hid (TkRow.of_src h1); clear h1)
        | (go_at_call 12; refine (same_yes ts n HN.out (by omega) A1 A2 c1 c2 w3 (HT1.out.far hF3) HT2.out).mono ?_; rintro e w4 ⟨rfl, hF4⟩))
      go_ret
      exact ⟨rfl, (((hF1.trans hF2 (by simp)).trans hF3 (by simp)).trans hF4 (by simp)).below_nil⟩
end LW
end Go.Proofs.YtiebebbahbiloaaDoor
