/-
  Contracts of layer 3's fieldsOf and newCopier. Conditions: the arena's rows are as the document's list of things says.
-/
import Derived.Test.YtcfepiihjbbnaaaMoveTwice
import Derived.Test.YtcfepiihjbbnaaaRead
import Derived.Deep.DeepCutAuto
import Derived.Deep.QuietTactic
import Derived.BigQuiet
import Derived.Maps.OwnSet
namespace Go.Proofs.Ytcfepiihjbbnaaa
open Go.RowKit Go.Maps
namespace MW
open AW AP
theorem word_keyed : Keyed Try.prog 42 := int_keyed Try.underlying42
theorem word_zero (w : World) : (zeroValue 42).run Try.prog w = .ok (.int .u64 0) w := by kernel_rfl
theorem wf_u {x : Int} (h : WP.U x) : (Lit.int .u64 x).wf = true := by
  unfold WP.U at h; simp [Lit.wf, IntKind.min, IntKind.max, IntKind.signed, IntKind.bits]; omega
/-- A row that is half filled. -/
def half (l : List Int) (k : Nat) : List Int := l.take k ++ List.replicate (l.length - k) 0
theorem half_zero (l : List Int) : half l 0 = List.replicate l.length 0 := by simp [half]
theorem half_all (l : List Int) : half l l.length = l := by simp [half]
theorem half_len (l : List Int) (k : Nat) (h : k ≤ l.length) : (half l k).length = l.length := by simp [half]; omega
theorem half_step (l : List Int) (k : Nat) (h : k < l.length) : (half l k).set k l[k] = half l (k + 1) := by
  unfold half
  have e : l.length - k = (l.length - (k + 1)) + 1 := by omega
  have e2 : (l.take k).length = k := by simp; omega
  rw [e, List.replicate_succ, List.set_append_right _ _ (by omega), e2, Nat.sub_self, List.set_cons_zero, List.take_succ_eq_append_getElem h, List.append_assoc]
  rfl
theorem made_half (w : World) (l : List Int) : MM.Row (w.alloc (.cells (madeCells #[.int .u64 0] l.length) 42)) w.heap.size 42 (U64s (half l 0)) := by
  rw [made_list, half_zero]
  have := MM.Row.new w 42 (List.replicate l.length (.int .u64 0))
  unfold U64s
  rw [List.map_replicate]
  exact this
theorem half_put {w : World} {b : Nat} {l : List Int} {k : Nat} (h : MM.Row w b 42 (U64s (half l k))) (hk : k < l.length) : MM.Row (w.setCell ⟨b, k, none⟩ (.int .u64 l[k])) b 42 (U64s (half l (k + 1))) := by
  have := h.put k (.int .u64 l[k])
  rw [← half_step l k hk]
  unfold U64s at this ⊢
  rw [List.map_set]; exact this
theorem half_cell {w : World} {b : Nat} {l : List Int} {k : Nat} (h : MM.Row w b 42 (U64s (half l k))) (hk : k < l.length) : ∃ o, w.cell? ⟨b, k, none⟩ = some o := by
  rw [h.cell]
  exact ⟨_, List.getElem?_eq_getElem (by simp [U64s, half_len l k (by omega)]; omega)⟩
theorem row_word {w : World} {b : Nat} {l : List Int} (h : MM.Row w b 42 (U64s l)) {k : Nat} (hk : k < l.length) : w.cell? ⟨b, k, none⟩ = some (.int .u64 l[k]) := by
  rw [h.cell]; unfold U64s; rw [List.getElem?_map, List.getElem?_eq_getElem hk]; rfl
section
variable {w : World} {p g h n : Nat} {ts : List AP.Th}
set_option maxHeartbeats 1000000 in
theorem fields_of (hA : Ar w p g h n ts) {x : Int} (hx : WP.U x) {i : Nat} (hi : AW.look ts x = some i) :
    Calls Try.prog 36 #[ptr p, .int .u64 x] w fun e w' => e = .returned (.slice (some ⟨w.heap.size, 0, none⟩) (th ts i).l.length (th ts i).l.length) ∧ MM.Row w' w.heap.size 42 (U64s (th ts i).l) ∧ MM.Far [] w w' := by
  have h255 : (th ts i).l.length ≤ 255 := (hA.ok.each i (MP.look_lt hi)).2.2.1
  have HL := Lib.hid (len_any hA x hx)
  have hlen : lenN ts x = (th ts i).l.length := by simp [lenN, hi]
  rw [hlen] at HL
  have HG := Lib.hid (fun (w2 : World) (hF : MM.Far [] w w2) (k : Nat) (hk : k < (th ts i).l.length) => show Calls Try.prog 16 #[ptr p, .int .u64 x, .int .i64 k] w2 fun e w' => e = .returned (.tuple #[.int .u64 ((th ts i).l[k]), .int .i64 0]) ∧ w2 = w' from by
    have := get_any (hA.far hF (by simp) (by simp) (by simp)) x hx k
    rw [show getW ts x k = (th ts i).l[k] by simp [getW, hi, hk], show getE ts x k = 0 by simp [getE, hi, hk]] at this
    exact this)
  generalize (th ts i).l = l at h255 HL HG ⊢
  have hm1 := run_make_row' (P := Try.prog) 23 42 (.int .u64 0) 8 words_slice word_info rfl .i64 .i64 l.length (by omega) (by omega)
  have HM := Lib.hid (made_half w l)
  have hF1 : MM.Far [] w (w.alloc (.cells (madeCells #[.int .u64 0] l.length) 42)) := (MM.Far.refl [] w).alloc _
  have HF1 := Lib.hid hF1
  clear hA hx hi hlen hF1
  go_enter Try.func36, Try.ntmps36
  go_wp2_with (first | (go_at_call 15; refine HL.out.mono ?_; rintro e w' ⟨rfl, rfl⟩))
  go_loopw [13] (fun s13 wr => ∃ k : Nat, k ≤ l.length ∧ s13 = .int .i64 k ∧ MM.Row wr w.heap.size 42 (U64s (half l k)) ∧ MM.Far [] w wr) (fun s13 _ => l.length - (intOf s13).toNat)
  case atStart => exact ⟨0, Nat.zero_le _, rfl, HM.out, HF1.out⟩
  case round =>
    obtain ⟨k, hk, rfl, hR, hF⟩ := hrel
    by_cases hlt : k < l.length
    · obtain ⟨o, ho⟩ := half_cell hR hlt
      have hfz := hR.frozen k
      have HG2 := Lib.hid (HG.out wr hF k hlt)
      have HP := Lib.hid (half_put hR hlt)
      have HF := Lib.hid (hF.setCell (p := ⟨w.heap.size, k, none⟩) (by simp) (.int .u64 l[k]))
      generalize l[k] = y at HG2 HP HF
      clear hR hF
      go_wp2_with (first | (go_at_call 16; refine HG2.out.mono ?_; rintro e w' ⟨rfl, rfl⟩))
      go_roundw
      case rel => exact ⟨k + 1, by omega, by go_num, HP.out, HF.out⟩
      case measure => simp [intOf]; omega
    · have hkl : k = l.length := by omega
      subst hkl
      rw [half_all] at hR
      go_wp2_with (fail)
      go_ret
      exact ⟨rfl, hR, hF⟩
end
end MW
end Go.Proofs.Ytcfepiihjbbnaaa
