/-
  The example shown, and P6.2's first law. No condition.
-/
import Derived.Test.YtbglcdjimipeeaaDoorReadR3
import Derived.Test.YtbglcdjimipeeaaDoorReadC6
import Derived.Test.YtbglcdjimipeeaaDoorReadFacts
namespace Go.Proofs.YtbglcdjimipeeaaDoor
open Go.RowKit
namespace RX
open LX
def shownN : List Nd := [⟨3, 1, 0, ⟨#[97]⟩, []⟩, ⟨3, 3, 0, quoteB, []⟩, ⟨3, 4, 0, ⟨#[98]⟩, []⟩, ⟨4, 3, 0, emp, [1, 2]⟩, ⟨4, 0, 0, emp, [0, 3]⟩]
theorem shown_read : read ⟨#[40, 97, 32, 39, 98, 41]⟩ = .ok ⟨shownN, [4], []⟩ := by kernel_rfl
theorem read_errne {s : ByteArray} {p x : Int} (h : read s = .error (p, x)) : (x == 0) = false := by
  cases hL : lex s with
  | error e =>
    obtain ⟨q, z⟩ := e
    unfold read at h
    rw [hL] at h
    injection h with h
    injection h with h1 h2
    subst h2
    exact lex_errne hL
  | ok ts =>
    rw [read_fin hL] at h
    cases hT : tokens ts ⟨[], [], []⟩ with
    | error e =>
      rw [hT] at h
      obtain ⟨q, z⟩ := e
      injection h with h
      injection h with h1 h2
      subst h2
      have : ∀ (ts : List Tk) (r : Rd) (q z : Int), tokens ts r = .error (q, z) → z = 61 ∨ z = 62 ∨ z = 63 := by
        intro ts
        induction ts with
        | nil => intro r q z h; cases h
        | cons t ts ih =>
          intro r q z h
          simp only [tokens] at h
          cases hk : token r t with
          | error y => rw [hk] at h; injection h with h; injection h with h1 h2; subst h2; exact token_err hk
          | ok r1 => rw [hk] at h; exact ih _ _ _ h
      have := this _ _ _ _ hT
      rw [beq_eq_false_iff_ne]; omega
    | ok r =>
      rw [hT] at h
      have := end_err h
      rw [beq_eq_false_iff_ne]; omega
end RX
namespace RW6
open LX RX
theorem introw_nil (w : World) (A : Option Addr) : IntRow w A [] := fun k h => by simp at h
theorem ndrow_nil (w : World) (A : Option Addr) : NdRow w A [] := fun k h => by simp at h
theorem introw_new (w w' : World) (l : List Nat) (f : MM.Far [] (w.alloc (.cells (ints l).toArray 3)) w') : IntRow w' (some ⟨w.heap.size, 0, none⟩) l :=
  (IntRow.of_src (MM.Src.row (S := []) (MM.Row.new w 3 (ints l)) (by simp) _ (fun _ _ h => h))).far f
/-- Two of the same places: what of it is known is a fact for the walk. -/
theorem ints_call {w : World} {A1 A2 : Option Addr} {c1 c2 n : Nat} {l : List Nat} (hn : l.length = n) (hm : n ≤ 100000) (h1 : IntRow w A1 l) (h2 : IntRow w A2 l) : Calls Tryd.prog 6 #[.slice A1 n c1, .slice A2 n c2] w fun e w' => e = .returned (.bool true) ∧ MM.Far [] w w' :=
  (ints_yes l n hn hm A1 A2 c1 c2 w h1 h2).mono fun _ _ ⟨a, d, e⟩ => ⟨a, e ▸ (MM.Far.refl [] w).drewN d⟩
theorem same_call {w : World} {A1 A2 : Option Addr} {c1 c2 n : Nat} {ns : List Nd} (hn : ns.length = n) (hm : n ≤ 100000) (hl : ∀ x ∈ ns, x.l.length ≤ 100000) (h1 : NdRow w A1 ns) (h2 : NdRow w A2 ns) : Calls Tryd.prog 7 #[.slice A1 n c1, .slice A2 n c2] w fun e w' => e = .returned (.bool true) ∧ MM.Far [] w w' :=
  (nsame_yes ns n hn hm hl A1 A2 c1 c2 w h1 h2).mono fun _ _ ⟨a, d, e⟩ => ⟨a, e ▸ (MM.Far.refl [] w).drewN d⟩
theorem shown_row (w : World) : NdRow (((w.alloc (.cells #[.int .i64 1, .int .i64 2] 3)).alloc (.cells #[.int .i64 0, .int .i64 3] 3)).alloc (.cells #[.int .u8 3, .int .i64 1, .int .i64 0, .string ⟨#[97]⟩, .slice none 0 0,
    .int .u8 3, .int .i64 3, .int .i64 0, .string ⟨#[113, 117, 111, 116, 101]⟩, .slice none 0 0, .int .u8 3, .int .i64 4, .int .i64 0, .string ⟨#[98]⟩, .slice none 0 0, .int .u8 4, .int .i64 3, .int .i64 0, .string ⟨#[]⟩, .slice (some ⟨w.heap.size, 0, none⟩) 2 2,
    .int .u8 4, .int .i64 0, .int .i64 0, .string ⟨#[]⟩, .slice (some ⟨w.heap.size + 1, 0, none⟩) 2 2] 33)) (some ⟨w.heap.size + 1 + 1, 0, none⟩) shownN := by
  have h1 := MM.Row.new w 3 (ints [1, 2])
  have h2 := MM.Row.new (w.alloc (.cells (ints [1, 2]).toArray 3)) 3 (ints [0, 3])
  have h3 := MM.Row.new ((w.alloc (.cells (ints [1, 2]).toArray 3)).alloc (.cells (ints [0, 3]).toArray 3)) 33 [.int .u8 3, .int .i64 1, .int .i64 0, .string ⟨#[97]⟩, .slice none 0 0,
    .int .u8 3, .int .i64 3, .int .i64 0, .string ⟨#[113, 117, 111, 116, 101]⟩, .slice none 0 0, .int .u8 3, .int .i64 4, .int .i64 0, .string ⟨#[98]⟩, .slice none 0 0, .int .u8 4, .int .i64 3, .int .i64 0, .string ⟨#[]⟩, .slice (some ⟨w.heap.size, 0, none⟩) 2 2,
    .int .u8 4, .int .i64 0, .int .i64 0, .string ⟨#[]⟩, .slice (some ⟨w.heap.size + 1, 0, none⟩) 2 2]
  simp only [World.size_alloc] at h2 h3
  have g1 := (h1.alloc (.cells (ints [0, 3]).toArray 3)).alloc (.cells #[.int .u8 3, .int .i64 1, .int .i64 0, .string ⟨#[97]⟩, .slice none 0 0,
    .int .u8 3, .int .i64 3, .int .i64 0, .string ⟨#[113, 117, 111, 116, 101]⟩, .slice none 0 0, .int .u8 3, .int .i64 4, .int .i64 0, .string ⟨#[98]⟩, .slice none 0 0, .int .u8 4, .int .i64 3, .int .i64 0, .string ⟨#[]⟩, .slice (some ⟨w.heap.size, 0, none⟩) 2 2,
    .int .u8 4, .int .i64 0, .int .i64 0, .string ⟨#[]⟩, .slice (some ⟨w.heap.size + 1, 0, none⟩) 2 2] 33)
  have g2 := h2.alloc (.cells #[.int .u8 3, .int .i64 1, .int .i64 0, .string ⟨#[97]⟩, .slice none 0 0,
    .int .u8 3, .int .i64 3, .int .i64 0, .string ⟨#[113, 117, 111, 116, 101]⟩, .slice none 0 0, .int .u8 3, .int .i64 4, .int .i64 0, .string ⟨#[98]⟩, .slice none 0 0, .int .u8 4, .int .i64 3, .int .i64 0, .string ⟨#[]⟩, .slice (some ⟨w.heap.size, 0, none⟩) 2 2,
    .int .u8 4, .int .i64 0, .int .i64 0, .string ⟨#[]⟩, .slice (some ⟨w.heap.size + 1, 0, none⟩) 2 2] 33)
  intro k hk
  have hk5 : k < 5 := hk
  rcases (show k = 0 ∨ k = 1 ∨ k = 2 ∨ k = 3 ∨ k = 4 by omega) with rfl | rfl | rfl | rfl | rfl
  · exact ⟨_, 0, none, 0, rfl, h3.lt, h3.at (i := 0) rfl, h3.at (i := 1) rfl, h3.at (i := 2) rfl, h3.at (i := 3) rfl, h3.at (i := 4) rfl, introw_nil _ _⟩
  · exact ⟨_, 0, none, 0, rfl, h3.lt, h3.at (i := 5) rfl, h3.at (i := 6) rfl, h3.at (i := 7) rfl, h3.at (i := 8) rfl, h3.at (i := 9) rfl, introw_nil _ _⟩
  · exact ⟨_, 0, none, 0, rfl, h3.lt, h3.at (i := 10) rfl, h3.at (i := 11) rfl, h3.at (i := 12) rfl, h3.at (i := 13) rfl, h3.at (i := 14) rfl, introw_nil _ _⟩
  · exact ⟨_, 0, some ⟨w.heap.size, 0, none⟩, 2, rfl, h3.lt, h3.at (i := 15) rfl, h3.at (i := 16) rfl, h3.at (i := 17) rfl, h3.at (i := 18) rfl, h3.at (i := 19) rfl, IntRow.of_src (MM.Src.row (S := []) g1 (by simp) _ (fun _ _ h => h))⟩
  · exact ⟨_, 0, some ⟨w.heap.size + 1, 0, none⟩, 2, rfl, h3.lt, h3.at (i := 20) rfl, h3.at (i := 21) rfl, h3.at (i := 22) rfl, h3.at (i := 23) rfl, h3.at (i := 24) rfl, IntRow.of_src (MM.Src.row (S := []) g2 (by simp) _ (fun _ _ h => h))⟩
set_option maxHeartbeats 2000000 in
set_option maxRecDepth 20000 in
theorem shown_any (w : World) : Calls Tryd.prog 4 #[] w fun e w' => e = .returned (.bool true) ∧ MM.Far [] w w' := by
  have H := Lib.hid (RC6.read_any ⟨#[40, 97, 32, 39, 98, 41]⟩ (by decide))
  rw [shown_read] at H
  go_enter Tryd.func4, Tryd.ntmps4
  go_wp2_with (first
    | (go_at_call 5; refine (H.out _).mono ?_; rintro e w2 ⟨rv, tv, rs, rfl, hD, hrs⟩
       obtain ⟨A, c, hrv, -, -, -, hN⟩ := hD.nodes
       obtain ⟨B, d, htv, -, -, -, hI⟩ := hD.tops_row
       have hlen : rs.length = 5 := by have := congrArg List.length hrs; simpa [shownN] using this
       rw [hlen] at hrv
       subst hrv htv
       have HN := Lib.hid (hrs ▸ hN)
       have HI := Lib.hid hI
       have HF := Lib.hid hD.far
       clear hD hN hI hrs hlen)
    | (go_at_call 6; refine (ints_call (l := [4]) (n := 1) rfl (by omega) (HI.out.far ((MM.Far.refl [] w2).alloc _)) (introw_new w2 _ [4] (MM.Far.refl _ _))).mono ?_; rintro e w3 ⟨rfl, hF3⟩; have HF3 := Lib.hid (((MM.Far.refl [] w2).alloc (.cells #[.int .i64 4] 3)).trans hF3 (by simp)); clear hF3)
    | (go_at_call 7; refine (same_call (ns := shownN) (n := 5) rfl (by omega) (by decide) (HN.out.far ((((HF3.out).alloc _).alloc _).alloc _)) (shown_row w3)).mono ?_; rintro e w4 ⟨rfl, hF4⟩; have HF4 := Lib.hid ((((HF3.out.alloc _).alloc _).alloc _).trans hF4 (by simp)); clear hF4))
  go_ret
  exact ⟨rfl, HF.out.trans HF4.out (by simp)⟩
end RW6
end Go.Proofs.YtbglcdjimipeeaaDoor
