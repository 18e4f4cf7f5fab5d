/-
  The document's examples of layer 11 come out as the statements' head says. No condition.
-/
import Derived.Test.YthhibcfljekibaaDoorCodeC7
namespace Go.Proofs.YthhibcfljekibaaDoor
open Go.RowKit
set_option linter.unusedVariables false
namespace KW
open KP
theorem same_ints (d : List Int) (n : Nat) (hn : d.length = n) (h9 : n < 1000000000) (g h c c' : Nat) (w : World) (h1 : MM.Row w g 3 (ints d)) (h2 : MM.Row w h 3 (ints d)) :
    Calls Tryd.prog 13 #[.slice (some ⟨g, 0, none⟩) n c, .slice (some ⟨h, 0, none⟩) n c'] w fun e w' => e = .returned (.bool true) ∧ MM.Far [] w w' := by
  have HN := Lib.hid hn
  have H1 := Lib.hid h1
  have H2 := Lib.hid h2
  have hgl := h1.lt
  have hhl := h2.lt
  clear hn h1 h2
  go_enter Tryd.func13, Tryd.ntmps13
  go_wp2_with (fail)
  have F0 := Lib.hid (MM.Far.refl [] w)
  go_loopw [5] (fun s5 wr => ∃ k : Nat, k ≤ n ∧ s5 = num k ∧ Hid (MM.Far [] w wr)) (fun s5 _ => n - (intOf s5).toNat)
  case atStart => exact ⟨0, by omega, rfl, F0⟩
  case round =>
    obtain ⟨k, hk, rfl, HF⟩ := hrel
    by_cases hlt : k < n
    · have c1 : wr.cell? ⟨g, k, none⟩ = some (num (at_ d k)) := (H1.out.far HF.out (by simp)).at (ints_at (by rw [HN.out]; exact hlt))
      have c2 : wr.cell? ⟨h, k, none⟩ = some (num (at_ d k)) := (H2.out.far HF.out (by simp)).at (ints_at (by rw [HN.out]; exact hlt))
      generalize at_ d k = q at *
      go_wp2_with (fail)
      go_quiet (fail)
      go_wp2_with (fail)
      go_roundw
      case rel => exact ⟨k + 1, by omega, by go_num, Lib.hid (HF.out.drewN _)⟩
      case measure => simp [intOf]; omega
    · go_wp2_with (fail)
      go_ret
      exact ⟨rfl, HF.out⟩
/-- Instructions that were just laid in a row. -/
theorem Ir.new {w : World} {b : Nat} {l : List Ki} {S : List Nat} {vs : List Value} (h : MM.Row w b 38 vs) (hb : b ∉ S) (e : vs = l.flatMap cel) : Ir w S (some ⟨b, 0, none⟩) l := by
  subst e
  intro i x hx
  refine ⟨b, 0, rfl, hb, h.lt, fun j u hu => ?_⟩
  rw [Nat.zero_add]
  refine h.at ?_
  have key : ∀ (l : List Ki) (i : Nat) (x : Ki), l[i]? = some x → ∀ (j : Nat) (u : Value), (cel x)[j]? = some u → (l.flatMap cel)[i * 4 + j]? = some u := by
    intro l
    induction l with
    | nil => intro i x h; simp at h
    | cons y l ih =>
      intro i x h j u hu
      rw [List.flatMap_cons]
      have hj : j < 4 := by have := (List.getElem?_eq_some_iff.1 hu).1; simpa [cel] using this
      cases i with
      | zero =>
        simp at h; subst h
        rw [Nat.zero_mul, Nat.zero_add, List.getElem?_append_left (by simp [cel]; omega)]
        exact hu
      | succ i =>
        rw [List.getElem?_append_right (by simp [cel]; omega), show (i + 1) * 4 + j - (cel y).length = i * 4 + j by simp [cel]; omega]
        exact ih i x (by simpa using h) j u hu
  exact key l i x hx j u hu
set_option maxHeartbeats 2000000 in
theorem shown_any (w : World) : Calls Tryd.prog 8 #[] w fun e w' => e = .returned (.bool true) ∧ MM.Far [] w w' := by
  have D1 : depth [⟨1, 0, 0, 8⟩, ⟨16, 0, 0, 0⟩] = some [0, 0] := by decide +kernel
  have D2 : depth [⟨7, 0, 0, 0⟩] = none := by decide +kernel
  have HD1 := Lib.hid (fun A W h => depth_any [⟨1, 0, 0, 8⟩, ⟨16, 0, 0, 0⟩] 2 rfl (by omega) 0 A 2 W h)
  have HD2 := Lib.hid (fun A W h => depth_any [⟨7, 0, 0, 0⟩] 1 rfl (by omega) 0 A 1 W h)
  rw [D1] at HD1
  rw [D2] at HD2
  clear D1 D2
  have HI1 := Lib.hid (Ir.new (S := []) (l := [⟨1, 0, 0, 8⟩, ⟨16, 0, 0, 0⟩]) (MM.Row.new w 38 [.int .u8 1, .int .i64 0, .int .i64 0, .int .u64 8, .int .u8 16, .int .i64 0, .int .i64 0, .int .u64 0]) (by simp) rfl)
  have F1 := Lib.hid ((MM.Far.refl [] w).alloc (.cells #[.int .u8 1, .int .i64 0, .int .i64 0, .int .u64 8, .int .u8 16, .int .i64 0, .int .i64 0, .int .u64 0] 38))
  go_enter Tryd.func8, Tryd.ntmps8
  go_wp2_with (fail)
  refine (HD1.out _ _ HI1.out).mono ?_
  rintro e w2 ⟨v, rfl, hF2, -, hv⟩
  obtain ⟨g, rfl, hr2, hg2⟩ := hv _ rfl
  have HR2 := Lib.hid hr2
  have F2 := Lib.hid (F1.out.trans hF2 (by simp))
  clear hr2 hv hF2 hg2
  go_wp2_with (fail)
  have HI2 := Lib.hid (Ir.new (S := []) (l := [⟨7, 0, 0, 0⟩]) (MM.Row.new w2 38 [.int .u8 7, .int .i64 0, .int .i64 0, .int .u64 0]) (by simp) rfl)
  refine (HD2.out _ _ HI2.out).mono ?_
  rintro e w3 ⟨v, rfl, hF3, hv, -⟩
  obtain rfl := hv rfl
  have F3' := ((MM.Far.refl [] w2).alloc (.cells #[.int .u8 7, .int .i64 0, .int .i64 0, .int .u64 0] 38)).trans hF3 (by simp)
  have F3 := Lib.hid (F2.out.trans F3' (by simp))
  have HR3 := Lib.hid (HR2.out.far F3' (by simp))
  clear hF3 F3'
  go_wp2_with (first
    | (go_at_call 13
       refine (same_ints [0, 0] 2 rfl (by omega) g w3.heap.size _ _ _ (HR3.out.alloc _) (MM.Row.new w3 3 [num 0, num 0])).mono ?_
       rintro e w4 ⟨rfl, hF4⟩))
  go_ret
  exact ⟨rfl, (F3.out.alloc _).trans hF4 (by simp)⟩
end KW
end Go.Proofs.YthhibcfljekibaaDoor
