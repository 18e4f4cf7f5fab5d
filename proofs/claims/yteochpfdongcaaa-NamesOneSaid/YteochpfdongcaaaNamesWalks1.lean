/-
  Contracts of layer 4's methods: New, Find, Len, Text, add, Put, over a row of names. Conditions: the table's blocks are as the row of names says; a text is no longer than 2^47 bytes.
-/
import Derived.Test.YteochpfdongcaaaProg
import Derived.Test.YteochpfdongcaaaMem
import Derived.Test.YteochpfdongcaaaOwn
import Derived.Test.YteochpfdongcaaaClone
import Derived.Test.YteochpfdongcaaaNamesPlain
import Derived.Lib.Hide
import Derived.Lib.Strings
import Derived.Maps.OwnOps
namespace Go.Proofs.Yteochpfdongcaaa
open Go.RowKit Go.Maps
namespace NW
abbrev ptr (p : Nat) : Value := .pointer (some ⟨p, 0, none⟩)
def strs (L : List ByteArray) : List Value := L.map Value.string
theorem string_keyed_ : Keyed Try.prog 9 := string_keyed Try.underlying9
theorem int_zero (w : World) : (zeroValue 3).run Try.prog w = .ok (.int .i64 0) w := by kernel_rfl
theorem string_info : (Try.prog.info? 9).map (fun i => (i.zero, i.size, i.bytes)) = some (some (.string ⟨#[]⟩), 1, 16) := by kernel_rfl
theorem strs_one (L : List ByteArray) : ∀ u ∈ strs L, u.oneCell' = true := by
  intro u hu
  obtain ⟨s, _, rfl⟩ := List.mem_map.1 hu
  rfl
theorem key_of {s : ByteArray} (hs : s.size ≤ maxLen) : keyOf Try.prog 9 (.string s) = some (NP.key s) := WideMaps.keyOf_string_mk (P := Try.prog) Try.underlying9 hs
/-- What a map of names to numbers is: nil, or a block of S that reads as f. -/
def Mp (w : World) (S : List Nat) (mv : Value) (n : Nat) (f : ByteArray → Option Int) : Prop :=
  (mv = .map none ∧ ∀ s, f s = none) ∨ ∃ b D, mv = .map (some b) ∧ b ∈ S ∧ w.ownsMap Try.prog 9 (plainElem Try.prog 3) b n D ∧ NP.Tab D f
/-- A table at block g: names are L; its blocks are among S. -/
structure Nm (w : World) (g : Nat) (S : List Nat) (L : List ByteArray) (mv sv : Value) : Prop where
  ok : NP.Ok L
  mem : g ∈ S
  head : MM.Row w g 51 [mv, sv]
  map : Mp w S mv L.length (NP.num L)
  row : w.ownsRow 0 9 1 sv L.length (strs L)
  own : ∀ b, sv.ownBlock = some b → b ∈ S
  lt : ∀ b, b ∈ S → b < w.heap.size
theorem Mp.far {a w : World} {S T : List Nat} {mv : Value} {n : Nat} {f : ByteArray → Option Int} (h : Mp a S mv n f) (k : MM.Far T a w) (hd : ∀ b, b ∈ S → b ∉ T) : Mp w S mv n f := by
  rcases h with h | ⟨b, D, h1, h2, h3, h4⟩
  · exact .inl h
  · refine .inr ⟨b, D, h1, h2, ?_, h4⟩
    have hlt := h3.lt
    obtain ⟨es, clock, hb, F, hs, hD⟩ := h3
    exact ⟨es, clock, (k.block b hlt (hd b h2)).trans hb, F, hs, hD⟩
theorem Nm.far {a w : World} {g : Nat} {S T : List Nat} {L : List ByteArray} {mv sv : Value} (h : Nm a g S L mv sv) (k : MM.Far T a w) (hd : ∀ b, b ∈ S → b ∉ T) : Nm w g S L mv sv :=
  ⟨h.ok, h.mem, h.head.far k (hd g h.mem), h.map.far k hd, MM.own_far h.row k (fun b hb => hd b (h.own b hb)), h.own, fun b hb => Nat.lt_of_lt_of_le (h.lt b hb) k.size⟩
theorem Nm.nil {a w : World} {g : Nat} {S : List Nat} {L : List ByteArray} {mv sv : Value} (h : Nm a g S L mv sv) (k : MM.Far [] a w) : Nm w g S L mv sv := h.far k (by simp)
/-- The call has turned the table's blocks alone, and the table is then of names L. -/
def Nxt (w : World) (g : Nat) (S : List Nat) (L : List ByteArray) (w' : World) : Prop :=
  ∃ S' mv sv, Nm w' g S' L mv sv ∧ MM.Far S w w' ∧ ∀ b, b ∈ S' → b ∈ S ∨ w.heap.size ≤ b
theorem look {w : World} {S : List Nat} {mv : Value} {n : Nat} {f : ByteArray → Option Int} (h : Mp w S mv n f) (s : ByteArray) (hs : s.size ≤ maxLen) :
    (Instr.lookup 40 mv (.string s) true).run Try.prog w = .ok (.tuple #[.int .i64 ((f s).getD 0), .bool (f s).isSome]) w := by
  rcases h with ⟨rfl, h0⟩ | ⟨b, D, rfl, _, h3, h4⟩
  · rw [Maps.look_nil true string_keyed_ Try.underlying40 (int_zero w) (key_of hs), h0 s]
    rfl
  · obtain ⟨v, ps, hrun, hv⟩ := h3.look_ok string_keyed_ Try.underlying40 (int_zero w) (plainElem_int Try.underlying3 (by decide)) (key_of hs)
    obtain ⟨c, rfl, hc, _⟩ := plainElem_int_inv Try.underlying3 hv
    have hc1 := congrArg Prod.fst hc
    simp only at hc1
    rw [h4.at_ s] at hc1
    have e : (f s).getD 0 = c := by injection hc1 with h1; injection h1
    rw [hrun, h4.has s, e]
section
variable {w : World} {g : Nat} {S : List Nat} {L : List ByteArray} {mv sv : Value}
theorem new_any (w : World) : Calls Try.prog 9 #[] w fun e w' => ∃ g, e = .returned (ptr g) ∧ w.heap.size ≤ g ∧ Nm w' g [g] [] (.map none) (.slice none 0 0) ∧ MM.Far [] w w' := by
  go_enter Try.func9, Try.ntmps9
  go_wp2
  go_ret
  exact ⟨_, rfl, Nat.le_refl _, ⟨NP.Ok.nil, by simp, MM.Row.new _ _ [.map none, .slice none 0 0], .inl ⟨rfl, fun s => by simp [NP.num]⟩, MO.none_ _ _ _ _, by simp [Value.ownBlock], by simp⟩, (MM.Far.refl _ _).alloc _⟩
theorem find_any (h : Nm w g S L mv sv) (s : ByteArray) (hs : s.size ≤ maxLen) : Calls Try.prog 11 #[ptr g, .string s] w fun e w' => e = .returned (.tuple #[.int .i64 (NP.findI L s), .bool (NP.findB L s)]) ∧ w = w' := by
  have h0 := h.head.at (i := 0) rfl
  have hl := look h.map s hs
  clear h
  go_enter Try.func11, Try.ntmps11
  go_wp2
  go_ret2
  exact ⟨rfl, rfl⟩
theorem find_nil (s : ByteArray) (w : World) : Calls Try.prog 11 #[.pointer none, .string s] w fun e w' => e = .returned (.tuple #[.int .i64 0, .bool false]) ∧ w = w' := by
  go_enter Try.func11, Try.ntmps11
  go_wp2
  go_ret2
  exact ⟨rfl, rfl⟩
theorem len_any (h : Nm w g S L mv sv) : Calls Try.prog 17 #[ptr g] w fun e w' => e = .returned (.int .i64 L.length) ∧ w = w' := by
  have h1 := h.head.at (i := 1) rfl
  obtain ⟨A, c, rfl, _⟩ := MO.form h.row
  clear h
  go_enter Try.func17, Try.ntmps17
  go_wp2
  go_ret
  exact ⟨rfl, rfl⟩
theorem len_nil (w : World) : Calls Try.prog 17 #[.pointer none] w fun e w' => e = .returned (.int .i64 0) ∧ w = w' := by
  go_enter Try.func17, Try.ntmps17
  go_wp2
  go_ret
  exact ⟨rfl, rfl⟩
theorem text_no (h : Nm w g S L mv sv) (i : Int) (hi : ¬ (0 ≤ i ∧ i < L.length)) : Calls Try.prog 15 #[ptr g, .int .i64 i] w fun e w' => e = .returned (.tuple #[.string ⟨#[]⟩, .bool false]) ∧ w = w' := by
  by_cases h0 : i < 0
  · clear h hi
    go_enter Try.func15, Try.ntmps15
    go_wp2
    go_ret2
    exact ⟨rfl, rfl⟩
  · have h1 : (L.length : Int) ≤ i := by omega
    have H := Lib.hid h
    clear h hi
    go_enter Try.func15, Try.ntmps15
    go_wp2_with (first | (go_at_call 17; refine (len_any H.out).mono ?_; rintro e w' ⟨rfl, rfl⟩))
    go_ret2
    exact ⟨rfl, rfl⟩
theorem text_yes (h : Nm w g S L mv sv) (k : Nat) (hk : k < L.length) (s : ByteArray) (hs : L[k]? = some s) : Calls Try.prog 15 #[ptr g, .int .i64 k] w fun e w' => e = .returned (.tuple #[.string s, .bool true]) ∧ MM.Far [] w w' := by
  have hm : s.size ≤ 140737488355328 := by
    have := (h.ok.each s (List.mem_of_getElem? hs)).2
    omega
  have hlen := h.ok.len
  have h1 := h.head.at (i := 1) rfl
  obtain ⟨A, c, hsv, _, hc1, hc2, hsrc, hA⟩ := MO.form h.row
  rcases hA with ⟨_, h0, _⟩ | ⟨b, rfl, _, _⟩
  · omega
  · have hc : w.cell? ⟨b, k, none⟩ = some (.string s) := by
      obtain ⟨ad, e, _, _, hcc⟩ := hsrc [] (by simp) (by simp [strs]; omega)
      injection e with e
      subst e
      have := hcc k (.string s) (by unfold strs; rw [List.getElem?_map, hs]; rfl)
      rwa [MM.head_add] at this
    subst hsv
    have H := Lib.hid h
    clear h hs hsrc
    go_enter Try.func15, Try.ntmps15
    go_wp2_with (first | (go_at_call 17; refine (len_any H.out).mono ?_; rintro e w' ⟨rfl, rfl⟩) | (go_at_call 20; refine (MC.clone_any s _ hm).mono ?_; rintro e w1 ⟨rfl, hF⟩))
    go_ret2
    exact ⟨rfl, hF⟩
end
end NW
end Go.Proofs.Yteochpfdongcaaa
