/-
  The landed timers over a state that a law carries; the document's examples. Conditions: 64 timers or fewer; numbers fit.
-/
import Derived.Test.YtcodmpibhlojaaaTimC3
namespace Go.Proofs.Ytcodmpibhlojaaa
open Go.RowKit Go.Lib
namespace TW
open TM TR MM TL
/-- Timers at p that the call begun in w0 has made. -/
def At (w0 w : World) (p : Nat) (l : List Ti) (c : Nat) : Prop := ∃ S v, Tm w p S v l c ∧ Far [] w0 w ∧ ∀ b, b ∈ S → w0.heap.size ≤ b
theorem At.nx {w0 w w' : World} {p : Nat} {S : List Nat} {l : List Ti} {c : Nat} (h : Nx w p S l c w') (hF : Far [] w0 w) (hS : ∀ b, b ∈ S → w0.heap.size ≤ b) : At w0 w' p l c := by
  obtain ⟨S', v, h1, h2, h3⟩ := h
  refine ⟨S', v, h1, hF.trans h2 (fun b hb hlt => ?_), fun b hb => ?_⟩
  · have := hS b hb; omega
  · rcases h3 b hb with h4 | h4
    · exact hS b h4
    · exact Nat.le_trans hF.size h4
theorem At.to {w0 w w' : World} {p : Nat} {l : List Ti} {c : Nat} (h : At w0 w p l c) (k : Far [] w w') : At w0 w' p l c := by
  obtain ⟨S, v, h1, h2, h3⟩ := h
  exact ⟨S, v, h1.nil k, h2.trans k (by simp), h3⟩
theorem At.far {w0 w : World} {p : Nat} {l : List Ti} {c : Nat} (h : At w0 w p l c) : Far [] w0 w := h.choose_spec.choose_spec.2.1
theorem at_new (w0 w : World) (hF : Far [] w0 w) : Calls Try.prog 9 #[] w fun e w' => ∃ p, e = .returned (ptr p) ∧ At w0 w' p [] 0 := by
  refine (new_any w).mono ?_
  rintro e w' ⟨p, rfl, hp, h, hk⟩
  exact ⟨p, rfl, [p], _, h, hF.trans hk (by simp), fun b hb => by rw [List.mem_singleton.1 hb]; exact Nat.le_trans hF.size hp⟩
section
variable {w0 w : World} {p : Nat} {l : List Ti} {c : Nat}
theorem at_len (h : At w0 w p l c) : Calls Try.prog 18 #[ptr p] w fun e w' => e = .returned (.int .i64 l.length) ∧ w = w' := by
  obtain ⟨S, v, h1, _, _⟩ := h
  exact len_any h1
theorem at_next (h : At w0 w p l c) : Calls Try.prog 16 #[ptr p] w fun e w' => e = .returned (nextV l) ∧ w = w' := by
  obtain ⟨S, v, h1, _, _⟩ := h
  exact next_any h1
theorem at_put (h : At w0 w p l c) (hlen : l.length < 64) (hc : c < 1000000000) (d x : Int) (l' : List Ti) (hl : ins ⟨d, x, c⟩ l = l') : Calls Try.prog 10 #[ptr p, .int .i64 d, .int .i64 x] w fun e w' => e = .returned (.tuple #[.int .i64 c, .int .i64 0]) ∧ At w0 w' p l' (c + 1) := by
  obtain ⟨S, v, h1, h2, h3⟩ := h
  subst hl
  refine (put_any h1 hlen hc d x).mono ?_
  rintro e w' ⟨rfl, hQ⟩
  exact ⟨rfl, At.nx hQ h2 h3⟩
theorem at_full (h : At w0 w p l c) (hlen : 64 ≤ l.length) (d x : Int) : Calls Try.prog 10 #[ptr p, .int .i64 d, .int .i64 x] w fun e w' => e = .returned (.tuple #[.int .i64 0, .int .i64 140]) ∧ w = w' := by
  obtain ⟨S, v, h1, _, _⟩ := h
  exact put_full h1 hlen d x
theorem at_due (h : At w0 w p l c) (hlen : l.length ≤ 64) (d i : Int) (r : List Ti) (hR : tk (dueB d) l = some (i, r)) : Calls Try.prog 12 #[ptr p, .int .i64 d] w fun e w' => e = .returned (.tuple #[.int .i64 i, .bool true]) ∧ At w0 w' p r c := by
  obtain ⟨S, v, h1, h2, h3⟩ := h
  refine (due_any h1 hlen d).mono ?_
  rw [hR]
  rintro e w' ⟨rfl, hQ⟩
  exact ⟨rfl, At.nx hQ h2 h3⟩
theorem at_undue (h : At w0 w p l c) (hlen : l.length ≤ 64) (d : Int) (hR : tk (dueB d) l = none) : Calls Try.prog 12 #[ptr p, .int .i64 d] w fun e w' => e = .returned (.tuple #[.int .i64 0, .bool false]) ∧ At w0 w' p l c := by
  obtain ⟨S, v, h1, h2, h3⟩ := h
  refine (due_any h1 hlen d).mono ?_
  rw [hR]
  rintro e w' ⟨rfl, hQ⟩
  exact ⟨rfl, At.nx hQ h2 h3⟩
theorem at_remove (h : At w0 w p l c) (hlen : l.length ≤ 64) (d i : Int) (r : List Ti) (hR : tk (isN d) l = some (i, r)) : Calls Try.prog 14 #[ptr p, .int .i64 d] w fun e w' => e = .returned (.tuple #[.int .i64 i, .bool true]) ∧ At w0 w' p r c := by
  obtain ⟨S, v, h1, h2, h3⟩ := h
  refine (remove_any h1 hlen d).mono ?_
  rw [hR]
  rintro e w' ⟨rfl, hQ⟩
  exact ⟨rfl, At.nx hQ h2 h3⟩
theorem at_unremove (h : At w0 w p l c) (hlen : l.length ≤ 64) (d : Int) (hR : tk (isN d) l = none) : Calls Try.prog 14 #[ptr p, .int .i64 d] w fun e w' => e = .returned (.tuple #[.int .i64 0, .bool false]) ∧ At w0 w' p l c := by
  obtain ⟨S, v, h1, h2, h3⟩ := h
  refine (remove_any h1 hlen d).mono ?_
  rw [hR]
  rintro e w' ⟨rfl, hQ⟩
  exact ⟨rfl, At.nx hQ h2 h3⟩
end
set_option maxHeartbeats 1000000 in
theorem shown_any (w : World) : Calls Try.prog 8 #[] w fun e w' => e = .returned (.bool true) ∧ Far [] w w' := by
  have hd0 := (Far.refl [] w)
  go_enter Try.func8, Try.ntmps8
  go_wp2_with (first
    | (go_at_call 9; refine (at_new w _ hd0).mono ?_; rintro e w1 ⟨p, rfl, h1⟩; have H := Lib.hid h1; clear h1)
    | (go_at_call 10; (refine (at_put H.out (by decide) (by decide) 5 1 [⟨5, 1, 0⟩] rfl).mono ?_); rintro e w2 ⟨rfl, h2⟩; have H2 := Lib.hid h2; clear h2 H)
    | (go_at_call 10; (refine (at_put H2.out (by decide) (by decide) 3 2 [⟨3, 2, 1⟩, ⟨5, 1, 0⟩] rfl).mono ?_); rintro e w3 ⟨rfl, h3⟩; have H3 := Lib.hid h3; clear h3 H2)
    | (go_at_call 10; (refine (at_put H3.out (by decide) (by decide) 5 3 [⟨3, 2, 1⟩, ⟨5, 1, 0⟩, ⟨5, 3, 2⟩] rfl).mono ?_); rintro e w4 ⟨rfl, h4⟩; have H4 := Lib.hid h4; clear h4 H3)
    | (go_at_call 12; (refine (at_due H4.out (by decide) 4 2 [⟨5, 1, 0⟩, ⟨5, 3, 2⟩] rfl).mono ?_); rintro e w5 ⟨rfl, h5⟩; have H5 := Lib.hid h5; clear h5 H4)
    | (go_at_call 12; (refine (at_undue H5.out (by decide) 4 rfl).mono ?_); rintro e w6 ⟨rfl, h6⟩; have H6 := Lib.hid h6; clear h6 H5)
    | (go_at_call 12; (refine (at_due H6.out (by decide) 9 1 [⟨5, 3, 2⟩] rfl).mono ?_); rintro e w7 ⟨rfl, h7⟩; have H7 := Lib.hid h7; clear h7 H6)
    | (go_at_call 12; (refine (at_due H7.out (by decide) 9 3 [] rfl).mono ?_); rintro e w8 ⟨rfl, h8⟩; have H8 := Lib.hid h8; clear h8 H7))
  go_ret
  exact ⟨rfl, H8.out.far⟩
end TW
end Go.Proofs.Ytcodmpibhlojaaa
