/-
  Contracts of layer 3's words (of rows that are the same) and bare. Conditions: the rows can be read.
-/
import Derived.Test.YtcfepiihjbbnaaaMoveBuild
namespace Go.Proofs.Ytcfepiihjbbnaaa
open Go.RowKit
namespace ML
open AW MW
theorem drewN_drew (w : World) (d : Nat) : (w.drewN d).drew = w.drewN (d + 1) := rfl
set_option maxHeartbeats 1000000 in
theorem words_eq (w : World) (l : List Int) (n : Nat) (A1 A2 : Option Addr) (c1 c2 : Nat) (hn : l.length = n) (h63 : n ≤ 9223372036854775807) (h1 : MM.Src w [] A1 (U64s l)) (h2 : MM.Src w [] A2 (U64s l)) :
    Calls Try.prog 9 #[.slice A1 n c1, .slice A2 n c2] w fun e w' => e = .returned (.bool true) ∧ MM.Far [] w w' := by
  subst hn
  have H1 := Lib.hid h1
  have H2 := Lib.hid h2
  clear h1 h2
  go_enter Try.func9, Try.ntmps9
  go_wp2_with (fail)
  go_loopw [13] (fun s13 wr => ∃ (k : Nat), k ≤ l.length ∧ s13 = .int .i64 k ∧ MM.Far [] w wr) (fun s13 _ => l.length - (intOf s13).toNat)
  case atStart => exact ⟨0, Nat.zero_le _, rfl, MM.Far.refl _ _⟩
  case round =>
    obtain ⟨k, hk, rfl, hF⟩ := hrel
    by_cases hlt : k < l.length
    · obtain ⟨b1, o1, rfl, hb1, _, hc1⟩ := src_at H1.out (by omega)
      obtain ⟨b2, o2, rfl, hb2, _, hc2⟩ := src_at H2.out (by omega)
      have g1 : wr.cell? ⟨b1, o1 + k, none⟩ = some (.int .u64 l[k]) := by rw [hF.cell (p := ⟨b1, o1 + k, none⟩) hb1 (by simp)]; exact hc1 k hlt
      have g2 : wr.cell? ⟨b2, o2 + k, none⟩ = some (.int .u64 l[k]) := by rw [hF.cell (p := ⟨b2, o2 + k, none⟩) hb2 (by simp)]; exact hc2 k hlt
      generalize l[k] = x at g1 g2
      have HF := Lib.hid hF
      have i1 : (k : Int) < (l.length : Int) := by omega
      clear hc1 hc2 hF
      go_wp2_with (fail)
      go_region
      all_goals
        go_wp2_with (fail)
        go_roundw
        case rel => exact ⟨k + 1, by omega, by go_num, HF.out.drew⟩
        case measure => simp [intOf]; omega
    · have hF2 := Lib.hid hF
      clear hF
      go_wp2_with (fail)
      go_ret
      exact ⟨rfl, hF2.out⟩
theorem bare_any (x : Int) (hx : WP.U x) (w : World) : Calls Try.prog 14 #[.int .u64 x] w fun e w' => e = .returned (.int .u64 (MP.bareW x)) ∧ w = w' := by
  have hto := Lib.hid (WW.rto_any 1 x hx w)
  obtain ⟨ok, hok⟩ : ∃ ok, WP.toB 1 x = ok := ⟨_, rfl⟩
  have HB : Hid (MP.bareW x = if ok = true then 26 else x) := by
    show _ = _
    unfold MP.bareW; rw [hok]
  rw [hok] at hto
  clear hok hx
  cases ok with
  | true =>
    go_enter Try.func14, Try.ntmps14
    go_wp2_with (first | (go_at_call 29; refine hto.out.mono ?_; rintro e w' ⟨rfl, rfl⟩))
    go_ret
    exact ⟨ret_1 (by rw [HB.out]; rfl), rfl⟩
  | false =>
    go_enter Try.func14, Try.ntmps14
    go_wp2_with (first | (go_at_call 29; refine hto.out.mono ?_; rintro e w' ⟨rfl, rfl⟩))
    go_ret
    exact ⟨ret_1 (by rw [HB.out]; rfl), rfl⟩
/-- Words that lie somewhere, the first k of them, and what is behind. -/
theorem src_take {w : World} {b off : Nat} {l : List Int} (h : MM.Src w [] (some ⟨b, off, none⟩) (U64s l)) (k : Nat) (A : Option Addr) (hA : 0 < k → A = some ⟨b, off, none⟩) : MM.Src w [] A (U64s (l.take k)) := by
  intro hp
  have hk : 0 < k := by simp [U64s] at hp; omega
  have hl : 0 < (U64s l).length := by simp [U64s] at hp ⊢; omega
  obtain ⟨ad, e, hb, hs, hc⟩ := h hl
  refine ⟨ad, (hA hk).trans e, hb, hs, fun j u hu => hc j u ?_⟩
  unfold U64s at hu
  rw [List.map_take, List.getElem?_take] at hu
  split at hu
  · exact hu
  · cases hu
theorem src_drop {w : World} {b off : Nat} {l : List Int} (h : MM.Src w [] (some ⟨b, off, none⟩) (U64s l)) (k : Nat) (A : Option Addr) (hA : k < l.length → A = some ⟨b, off + k, none⟩) : MM.Src w [] A (U64s (l.drop k)) := by
  intro hp
  have hk : k < l.length := by simp [U64s] at hp; omega
  have hl : 0 < (U64s l).length := by simp [U64s]; omega
  obtain ⟨ad, e, hb, hs, hc⟩ := h hl
  cases e
  refine ⟨⟨b, off + k, none⟩, hA hk, hb, hs, fun j u hu => ?_⟩
  unfold U64s at hu
  rw [List.map_drop, List.getElem?_drop] at hu
  have := hc (k + j) u hu
  rw [MR.mk_add] at this ⊢
  rw [Nat.add_assoc]; exact this
theorem src_none {w : World} {A : Option Addr} {l : List Int} (h : l.length = 0) : MM.Src w [] A (U64s l) := fun hp => absurd hp (by simp [U64s, h])
/-- The head of most statements: the argument boxed, the examples, both arenas. -/
theorem roots_u {w : World} {a2 : Option Addr} {len2 cap2 : Nat} {roots : List Int} (h : MR.Ints .u64 w a2 len2 cap2 roots) (k : Nat) : ∀ x ∈ roots.take k, WP.U x := fun x hx => AL.u_of (h.wf x (List.mem_of_mem_take hx))
end ML
end Go.Proofs.Ytcfepiihjbbnaaa
