/-
  The landed timers in memory, and their methods. Conditions: 64 timers or fewer; numbers fit.
-/
import Derived.Test.YtcodmpibhlojaaaTimIns3
import Derived.Test.YtcodmpibhlojaaaTimSeq
import Derived.Deep.RegionHeld3
import Derived.Deep.RegionWith
namespace Go.Proofs.Ytcodmpibhlojaaa
open Go.RowKit Go.Lib
namespace TW
open TM TR MM TL
abbrev ptr (p : Nat) : Value := .pointer (some ⟨p, 0, none⟩)
/-- Timers at block p: l, as they are next; c were put. -/
structure Tm (w : World) (p : Nat) (S : List Nat) (v : Value) (l : List Ti) (c : Nat) : Prop where
  head : Row w p 49 [v, .int .i64 c]
  row : w.ownsRow 0 52 3 v l.length (en l)
  mem : p ∈ S
  own : ∀ b, v.ownBlock = some b → b ∈ S
  lt : ∀ b, b ∈ S → b < w.heap.size
theorem Tm.far {a w : World} {p : Nat} {S T : List Nat} {v : Value} {l : List Ti} {c : Nat} (h : Tm a p S v l c) (k : Far T a w) (hd : ∀ b, b ∈ S → b ∉ T) : Tm w p S v l c :=
  ⟨h.head.far k (hd p h.mem), own_far h.row k (fun b hb => hd b (h.own b hb)), h.mem, h.own, fun b hb => Nat.lt_of_lt_of_le (h.lt b hb) k.size⟩
theorem Tm.nil {a w : World} {p : Nat} {S : List Nat} {v : Value} {l : List Ti} {c : Nat} (h : Tm a p S v l c) (k : Far [] a w) : Tm w p S v l c := h.far k (by simp)
/-- The call has turned the timers' blocks alone; they are then l. -/
def Nx (w : World) (p : Nat) (S : List Nat) (l : List Ti) (c : Nat) (w' : World) : Prop :=
  ∃ S' v, Tm w' p S' v l c ∧ Far S w w' ∧ ∀ b, b ∈ S' → b ∈ S ∨ w.heap.size ≤ b
theorem Nx.stay {w w' : World} {p : Nat} {S : List Nat} {v : Value} {l : List Ti} {c : Nat} (h : Tm w p S v l c) (k : Far [] w w') : Nx w p S l c w' :=
  ⟨S, v, h.nil k, k.mono (by simp), fun b hb => .inl hb⟩
theorem Nx.behind {w w1 w' : World} {p : Nat} {S : List Nat} {l : List Ti} {c : Nat} (h : Nx w1 p S l c w') (k : Far [] w w1) : Nx w p S l c w' := by
  obtain ⟨S', v, h1, h2, h3⟩ := h
  refine ⟨S', v, h1, (k.mono (S' := S) (by simp)).trans h2 (fun b hb _ => hb), fun b hb => ?_⟩
  rcases h3 b hb with h4 | h4
  · exact .inl h4
  · exact .inr (Nat.le_trans k.size h4)
section
variable {w : World} {p : Nat} {S : List Nat} {v : Value} {l : List Ti} {c : Nat}
theorem new_any (w : World) : Calls Try.prog 9 #[] w fun e w' => ∃ p, e = .returned (ptr p) ∧ w.heap.size ≤ p ∧ Tm w' p [p] (.slice none 0 0) [] 0 ∧ Far [] w w' := by
  go_enter Try.func9, Try.ntmps9
  go_wp2
  go_ret
  exact ⟨_, rfl, Nat.le_refl _, ⟨Row.new _ _ [.slice none 0 0, .int .i64 0], MO.none_ _ _ _ _, by simp, by simp [Value.ownBlock], by simp⟩, (Far.refl _ _).alloc _⟩
theorem len_any (h : Tm w p S v l c) : Calls Try.prog 18 #[ptr p] w fun e w' => e = .returned (.int .i64 l.length) ∧ w = w' := by
  have h0 := h.head.at (i := 0) rfl
  obtain ⟨A, k, rfl, _⟩ := MO.form h.row
  clear h
  go_enter Try.func18, Try.ntmps18
  go_wp2
  go_ret
  exact ⟨rfl, rfl⟩
theorem len_nil (w : World) : Calls Try.prog 18 #[.pointer none] w fun e w' => e = .returned (.int .i64 0) ∧ w = w' := by
  go_enter Try.func18, Try.ntmps18
  go_wp2
  go_ret
  exact ⟨rfl, rfl⟩
/-- when the next one is due. -/
def nextV : List Ti → Value
  | [] => .tuple #[.int .i64 0, .bool false]
  | x :: _ => .tuple #[.int .i64 x.d, .bool true]
theorem next_any (h : Tm w p S v l c) : Calls Try.prog 16 #[ptr p] w fun e w' => e = .returned (nextV l) ∧ w = w' := by
  have h0 := h.head.at (i := 0) rfl
  have H := Lib.hid h
  cases l with
  | nil =>
    clear h h0
    go_enter Try.func16, Try.ntmps16
    go_wp2_with (go_at_call 18; refine (len_any H.out).mono ?_; rintro e w' ⟨rfl, rfl⟩)
    go_ret2
    exact ⟨rfl, rfl⟩
  | cons x r =>
    rcases own_cases h.row with ⟨_, h1⟩ | ⟨b, cap, cur, rfl, hb, _, _, _, hc4⟩
    · cases h1
    · have hd := (load_one hb hc4 0 (by simp)).1
      simp only [Nat.zero_mul, List.getElem_cons_zero] at hd
      have hpos : ¬ ((r.length : Int) + 1 = 0) := by omega
      clear h hc4 hb
      go_enter Try.func16, Try.ntmps16
      go_wp2_with (go_at_call 18; refine (len_any H.out).mono ?_; rintro e w' ⟨rfl, rfl⟩)
      go_ret2
      exact ⟨rfl, rfl⟩
theorem next_nil (w : World) : Calls Try.prog 16 #[.pointer none] w fun e w' => e = .returned (.tuple #[.int .i64 0, .bool false]) ∧ w = w' := by
  go_enter Try.func16, Try.ntmps16
  go_wp2_with (go_at_call 18; refine (len_nil _).mono ?_; rintro e w' ⟨rfl, rfl⟩)
  go_ret2
  exact ⟨rfl, rfl⟩
/-- the closures' words. -/
theorem placeOf1_any (b : Nat) (d : Int) (W : World) (x : Ti) (hb : W.cell? ⟨b, 0, none⟩ = some (.int .i64 d)) (hlt : b < W.heap.size) : Calls Try.prog 29 #[.agg (cs x).toArray, ptr b] W fun e w' => e = .returned (.bool (decide (d < x.d))) ∧ Far [] W w' := by
  obtain ⟨xd, xi, xn⟩ := x
  have hb2 := (Row.new W 52 [.int .i64 xd, .int .i64 xi, .int .i64 xn]).at (i := 0) rfl
  have hF : Far [] W (W.alloc (.cells #[.int .i64 xd, .int .i64 xi, .int .i64 xn] 52)) := (Far.refl [] W).alloc _
  have hb3 := (hF.cell (p := ⟨b, 0, none⟩) hlt (by simp)).trans hb
  have HF := Lib.hid hF
  clear hF hb
  simp only [cs]
  go_enter Try.func29, Try.ntmps29
  go_wp2
  go_ret
  exact ⟨rfl, HF.out⟩
theorem due1_any (b : Nat) (d : Int) (W : World) (x : Ti) (hb : W.cell? ⟨b, 0, none⟩ = some (.int .i64 d)) (hlt : b < W.heap.size) : Calls Try.prog 22 #[.agg (cs x).toArray, ptr b] W fun e w' => e = .returned (.bool (dueB d x)) ∧ Far [] W w' := by
  obtain ⟨xd, xi, xn⟩ := x
  have hb2 := (Row.new W 52 [.int .i64 xd, .int .i64 xi, .int .i64 xn]).at (i := 0) rfl
  have hF : Far [] W (W.alloc (.cells #[.int .i64 xd, .int .i64 xi, .int .i64 xn] 52)) := (Far.refl [] W).alloc _
  have hb3 := (hF.cell (p := ⟨b, 0, none⟩) hlt (by simp)).trans hb
  have HF := Lib.hid hF
  clear hF hb
  simp only [cs, dueB]
  go_enter Try.func22, Try.ntmps22
  go_wp2
  go_ret
  exact ⟨rfl, HF.out⟩
theorem remove1_any (b : Nat) (d : Int) (W : World) (x : Ti) (hb : W.cell? ⟨b, 0, none⟩ = some (.int .i64 d)) (hlt : b < W.heap.size) : Calls Try.prog 25 #[.agg (cs x).toArray, ptr b] W fun e w' => e = .returned (.bool (isN d x)) ∧ Far [] W w' := by
  obtain ⟨xd, xi, xn⟩ := x
  have hb2 := (Row.new W 52 [.int .i64 xd, .int .i64 xi, .int .i64 xn]).at (i := 2) rfl
  have hF : Far [] W (W.alloc (.cells #[.int .i64 xd, .int .i64 xi, .int .i64 xn] 52)) := (Far.refl [] W).alloc _
  have hb3 := (hF.cell (p := ⟨b, 0, none⟩) hlt (by simp)).trans hb
  have HF := Lib.hid hF
  clear hF hb
  simp only [cs, isN]
  go_enter Try.func25, Try.ntmps25
  go_wp2
  go_ret
  refine ⟨?_, HF.out⟩
  rfl
end
end TW
end Go.Proofs.Ytcodmpibhlojaaa
