/-
  Two timers and a row of what was told, each in blocks of its own. No condition but sizes.
-/
import Derived.Test.YtcodmpibhlojaaaTimAt
namespace Go.Proofs.Ytcodmpibhlojaaa
open Go.RowKit Go.Lib
namespace TW
open TM TR MM TL
def nums (l : List Int) : List Value := l.map (Value.int .i64)
/-- Timers at p and q, and a row of numbers: all made by the call begun in W. -/
def St3 (W w : World) (p : Nat) (l : List Ti) (c : Nat) (q : Nat) (r : List Ti) (d : Nat) (tv : Value) (told : List Int) : Prop :=
  ∃ S v T u, Tm w p S v l c ∧ Tm w q T u r d ∧ w.ownsRow W.heap.size 3 1 tv told.length (nums told) ∧ (∀ b, b ∈ S → b ∉ T) ∧ (∀ b, tv.ownBlock = some b → b ∉ S ∧ b ∉ T) ∧
    Far [] W w ∧ (∀ b, b ∈ S → W.heap.size ≤ b) ∧ (∀ b, b ∈ T → W.heap.size ≤ b)
section
variable {W w w' : World} {p q c d : Nat} {l r : List Ti} {tv : Value} {told : List Int}
theorem St3.far (h : St3 W w p l c q r d tv told) : Far [] W w := by
  obtain ⟨S, v, T, u, h1, h2, h3, h4, h5, h6, h7, h8⟩ := h
  exact h6
theorem St3.to (h : St3 W w p l c q r d tv told) (k : Far [] w w') : St3 W w' p l c q r d tv told := by
  obtain ⟨S, v, T, u, h1, h2, h3, h4, h5, h6, h7, h8⟩ := h
  exact ⟨S, v, T, u, h1.nil k, h2.nil k, own_far h3 k (by simp), h4, h5, h6.trans k (by simp), h7, h8⟩
theorem St3.swap (h : St3 W w p l c q r d tv told) : St3 W w q r d p l c tv told := by
  obtain ⟨S, v, T, u, h1, h2, h3, h4, h5, h6, h7, h8⟩ := h
  exact ⟨T, u, S, v, h2, h1, h3, fun b hb hs => h4 b hs hb, fun b hb => ⟨(h5 b hb).2, (h5 b hb).1⟩, h6, h8, h7⟩
theorem St3.one (h : St3 W w p l c q r d tv told) : ∃ S v, Tm w p S v l c ∧ ∀ l' c' w', Nx w p S l' c' w' → St3 W w' p l' c' q r d tv told := by
  obtain ⟨S, v, T, u, h1, h2, h3, h4, h5, h6, h7, h8⟩ := h
  refine ⟨S, v, h1, fun l' c' w' hN => ?_⟩
  obtain ⟨S', v', k1, k2, k3⟩ := hN
  have hnew : ∀ b, b ∈ S' → b ∈ S ∨ w.heap.size ≤ b := k3
  refine ⟨S', v', T, u, k1, h2.far k2 (fun b hb hs => h4 b hs hb), own_far h3 k2 (fun b hb => (h5 b hb).1), fun b hb hT => ?_, fun b hb => ⟨fun hS => ?_, (h5 b hb).2⟩, h6.trans k2 (fun b hb hlt => by have := h7 b hb; omega), fun b hb => ?_, h8⟩
  · rcases hnew b hb with hb | hb
    · exact h4 b hb hT
    · have := h2.lt b hT; omega
  · rcases hnew b hS with hS | hS
    · exact (h5 b hb).1 hS
    · have := (own_lt h3 b hb).1; omega
  · rcases hnew b hb with hb | hb
    · exact h7 b hb
    · exact Nat.le_trans h6.size hb
theorem st_len (h : St3 W w p l c q r d tv told) : Calls Try.prog 18 #[ptr p] w fun e w' => e = .returned (.int .i64 l.length) ∧ w = w' := by
  obtain ⟨S, v, h1, _⟩ := h.one
  exact len_any h1
theorem st_put (h : St3 W w p l c q r d tv told) (hlen : l.length < 64) (hc : c < 1000000000) (x i : Int) : Calls Try.prog 10 #[ptr p, .int .i64 x, .int .i64 i] w fun e w' => e = .returned (.tuple #[.int .i64 c, .int .i64 0]) ∧ St3 W w' p (ins ⟨x, i, c⟩ l) (c + 1) q r d tv told := by
  obtain ⟨S, v, h1, hN⟩ := h.one
  refine (put_any h1 hlen hc x i).mono ?_
  rintro e w' ⟨rfl, hQ⟩
  exact ⟨rfl, hN _ _ _ hQ⟩
theorem st_due (h : St3 W w p l c q r d tv told) (hlen : l.length ≤ 64) (x i : Int) (t : List Ti) (hR : tk (dueB x) l = some (i, t)) : Calls Try.prog 12 #[ptr p, .int .i64 x] w fun e w' => e = .returned (.tuple #[.int .i64 i, .bool true]) ∧ St3 W w' p t c q r d tv told := by
  obtain ⟨S, v, h1, hN⟩ := h.one
  refine (due_any h1 hlen x).mono ?_
  rw [hR]
  rintro e w' ⟨rfl, hQ⟩
  exact ⟨rfl, hN _ _ _ hQ⟩
theorem st_undue (h : St3 W w p l c q r d tv told) (hlen : l.length ≤ 64) (x : Int) (hR : tk (dueB x) l = none) : Calls Try.prog 12 #[ptr p, .int .i64 x] w fun e w' => e = .returned (.tuple #[.int .i64 0, .bool false]) ∧ St3 W w' p l c q r d tv told := by
  obtain ⟨S, v, h1, hN⟩ := h.one
  refine (due_any h1 hlen x).mono ?_
  rw [hR]
  rintro e w' ⟨rfl, hQ⟩
  exact ⟨rfl, hN _ _ _ hQ⟩
theorem st_two (w0 : World) (hF : Far [] W w0) (w1 w2 : World) (p q : Nat) (hp : w0.heap.size ≤ p) (hq : w1.heap.size ≤ q) (h1 : Tm w1 p [p] (.slice none 0 0) [] 0) (h2 : Tm w2 q [q] (.slice none 0 0) [] 0) (hF1 : Far [] w0 w1) (hF2 : Far [] w1 w2) :
    St3 W w2 p [] 0 q [] 0 (.slice none 0 0) [] := by
  have hlt := h1.head.lt
  refine ⟨[p], _, [q], _, h1.nil hF2, h2, MO.none_ _ _ _ _, ?_, by simp [Value.ownBlock], (hF.trans hF1 (by simp)).trans hF2 (by simp), ?_, ?_⟩
  · intro b hb hb'
    rw [List.mem_singleton] at hb hb'
    omega
  · intro b hb
    rw [List.mem_singleton.1 hb]
    exact Nat.le_trans hF.size hp
  · intro b hb
    rw [List.mem_singleton.1 hb]
    exact Nat.le_trans (hF.trans hF1 (by simp)).size hq
/-- a number more is told. -/
theorem st_told (h : St3 W w p l c q r d tv told) (x : Int) (tv' : Value) (ho : w'.ownsRow W.heap.size 3 1 tv' (told.length + 1) (nums told ++ [.int .i64 x]))
    (hg : (w.alloc (.cells #[.int .i64 x] 3)).grownBy w' tv.ownBlock) (ha : tv'.ownBlock = tv.ownBlock ∨ tv'.ownBlock = some (w.alloc (.cells #[.int .i64 x] 3)).heap.size) : St3 W w' p l c q r d tv' (told ++ [x]) := by
  obtain ⟨S, v, T, u, h1, h2, h3, h4, h5, h6, h7, h8⟩ := h.to ((Far.refl [] w).alloc (.cells #[.int .i64 x] 3))
  have hF : Far tv.ownBlock.toList (w.alloc (.cells #[.int .i64 x] 3)) w' := Far.of_grown hg (fun b hb _ => by simp [hb])
  refine ⟨S, v, T, u, h1.far hF (fun b hb hm => (h5 b (by simpa using hm)).1 hb), h2.far hF (fun b hb hm => (h5 b (by simpa using hm)).2 hb), ?_, h4, fun b hb => ?_, h6.trans hF (fun b hb hlt => ?_), h7, h8⟩
  · have e : nums (told ++ [x]) = nums told ++ [.int .i64 x] := by simp [nums]
    rw [e, List.length_append]
    exact ho
  · rcases ha with ha | ha
    · exact h5 b (by rw [← ha]; exact hb)
    · rw [ha] at hb
      cases hb
      refine ⟨fun hm => ?_, fun hm => ?_⟩
      · have := h1.lt _ hm; omega
      · have := h2.lt _ hm; omega
  · have := (own_lt h3 b (by simpa using hb)).2
    omega
end
end TW
end Go.Proofs.Ytcodmpibhlojaaa
