/-
  Contracts of layer 11's code: slices.Contains; which fields an instruction has. Conditions: sizes, the program's table of fields.
-/
import Derived.Test.YthhibcfljekibaaDoorCodeC3
import Derived.Deep.LoopGhost
namespace Go.Proofs.YthhibcfljekibaaDoor
open Go.RowKit
set_option linter.unusedVariables false
namespace KW
open KP
def IxQ (R : Bool) (w : World) (e : Ending) (w' : World) : Prop := ∃ r, e = .returned (num r) ∧ decide (0 ≤ r) = R ∧ w = w'
theorem index_any (d : List Int) (n : Nat) (hn : d.length = n) (h9 : n < 1000000000) (v : Int) (g c : Nat) (w : World) (hr : MM.Row w g 3 (ints d)) :
    Calls Tryd.prog 27 #[.slice (some ⟨g, 0, none⟩) n c, num v] w (IxQ (d.contains v) w) := by
  have HN := Lib.hid hn
  have HR := Lib.hid hr
  have hgl := hr.lt
  obtain ⟨R, hR⟩ : ∃ R, d.contains v = R := ⟨_, rfl⟩
  rw [hR]
  have HC := Lib.hid hR
  clear hn hr hR
  go_enter Tryd.func27, Tryd.ntmps27
  go_wp2_with (fail)
  go_loopw [8] (fun s8 wr => ∃ k : Nat, k ≤ n ∧ s8 = num k ∧ w = wr ∧ Hid (∀ j, j < k → at_ d j ≠ v)) (fun s8 _ => n - (intOf s8).toNat)
  case atStart => exact ⟨0, by omega, rfl, rfl, Lib.hid (fun j hj => by omega)⟩
  case round =>
    obtain ⟨k, hk, rfl, rfl, hA⟩ := hrel
    by_cases hlt : k < n
    · have hck : w.cell? ⟨g, k, none⟩ = some (num (at_ d k)) := HR.out.at (ints_at (by rw [HN.out]; exact hlt))
      obtain ⟨q, hq⟩ : ∃ q, at_ d k = q := ⟨_, rfl⟩
      rw [hq] at hck
      have HQ := Lib.hid hq
      clear hq
      by_cases he : v = q
      · subst he
        have hRt : R = true := by
          rw [← HC.out]
          rw [List.contains_iff_mem]
          have h1 := HQ.out
          have hkl : k < d.length := by rw [HN.out]; exact hlt
          unfold at_ at h1
          rw [List.getD_eq_getElem?_getD, List.getElem?_eq_getElem hkl, Option.getD_some] at h1
          rw [← h1]; exact List.getElem_mem hkl
        subst hRt
        go_wp2_with (fail)
        go_ret
        refine ⟨_, rfl, ?_⟩
        first | trivial | (simp; done) | exact ⟨decide_eq_true (by omega), rfl⟩
      · have hee : (v == q) = false := by simpa using he
        go_wp2_with (fail)
        go_roundw
        case rel => exact ⟨k + 1, by omega, by go_num, by first | rfl | trivial, Lib.hid (fun j hj => by
          by_cases e : j = k
          · subst e; rw [HQ.out]; exact fun h => he h.symm
          · exact hA.out j (by omega))⟩
        case measure => simp [intOf]; omega
    · have hRf : R = false := by
        rw [← HC.out, ← Bool.not_eq_true, List.contains_iff_mem]
        intro hm
        obtain ⟨j, hj, e⟩ := List.getElem_of_mem hm
        refine hA.out j (by rw [HN.out] at hj; omega) ?_
        unfold at_
        rw [List.getD_eq_getElem?_getD, List.getElem?_eq_getElem hj, Option.getD_some]; exact e
      subst hRf
      go_wp2_with (fail)
      go_ret
      exact ⟨-1, rfl, by first | trivial | exact ⟨by decide, rfl⟩⟩
theorem contains_any (d : List Int) (n : Nat) (hn : d.length = n) (h9 : n < 1000000000) (v : Int) (g c : Nat) (w : World) (hr : MM.Row w g 3 (ints d)) :
    Calls Tryd.prog 20 #[.slice (some ⟨g, 0, none⟩) n c, num v] w fun e w' => e = .returned (.bool (d.contains v)) ∧ w = w' := by
  have HX := Lib.hid (index_any d n hn h9 v g c w hr)
  clear hn hr
  generalize d.contains v = R at *
  go_enter Tryd.func20, Tryd.ntmps20
  go_wp2_with (first
    | (go_at_call 27
       refine HX.out.mono ?_
       rintro e w' ⟨r, rfl, hr, rfl⟩
       have HRR := Lib.hid hr
       clear hr))
  all_goals
    go_ret
    refine ⟨?_, rfl⟩
    have := HRR.out
    simp_all
/-! ### the table of fields -/
structure FT (w : World) : Prop where
  lt : 3 < w.heap.size
  slot : ∀ k : Nat, k < 17 → ∃ A c, w.cell? ⟨3, k, none⟩ = some (.slice A (own k).length c) ∧ (own k).length ≤ c ∧ c ≤ maxLen ∧ ∀ (j : Nat) (v : Int), (own k)[j]? = some v → ∃ b o, A = some ⟨b, o, none⟩ ∧ b < w.heap.size ∧ w.cell? ⟨b, o + j, none⟩ = some (num v)
theorem FT.far {w w' : World} (h : FT w) (f : MM.Far [] w w') : FT w' := by
  refine ⟨Nat.lt_of_lt_of_le h.lt f.size, fun k hk => ?_⟩
  obtain ⟨A, c, h1, h2, h3, h4⟩ := h.slot k hk
  refine ⟨A, c, (f.cell (p := ⟨3, k, none⟩) h.lt (by simp)).trans h1, h2, h3, fun j v hv => ?_⟩
  obtain ⟨b, o, e, hb, hc⟩ := h4 j v hv
  exact ⟨b, o, e, Nat.lt_of_lt_of_le hb f.size, (f.cell (p := ⟨b, o + j, none⟩) hb (by simp)).trans hc⟩
set_option maxHeartbeats 2000000 in
set_option maxRecDepth 20000 in
theorem others_any (x : Ki) (k : Nat) (hx : x.op = k) (hk : k < 17) (w : World) (hT : FT w) : Calls Tryd.prog 28 #[val x] w fun e w' => e = .returned (.bool (others x)) ∧ MM.Far [] w w' := by
  have HF := Lib.hid (fun f hf W => filled_any x f hf W)
  have HO : Hid (∀ f, other x f = (!(own k).contains f && fld x f != 0)) := Lib.hid (fun f => by unfold other; rw [hx])
  have HE : Hid (others x = (other x 0 || (other x 1 || other x 2))) := Lib.hid rfl
  obtain ⟨op, xa, xb, xw⟩ := x
  obtain rfl : op = k := hx
  generalize others ⟨k, xa, xb, xw⟩ = R at *
  generalize fld ⟨k, xa, xb, xw⟩ = fl at *
  generalize other ⟨k, xa, xb, xw⟩ = ot at *
  have HT := Lib.hid hT
  clear hT
  show Calls Tryd.prog 28 #[.agg #[.int .u8 k, .int .i64 xa, .int .i64 xb, .int .u64 xw]] w _
  go_enter Tryd.func28, Tryd.ntmps28
  go_wp2
  go_step3
  go_wp2
  go_step3
  go_wp2
  have F1 := Lib.hid ((MM.Far.refl [] w).alloc (.cells #[.int .u8 k, .int .i64 xa, .int .i64 xb, .int .u64 xw] 38))
  have HB1 := Lib.hid (MM.Row.new w 38 [.int .u8 k, .int .i64 xa, .int .i64 xb, .int .u64 xw])
  generalize hw1 : w.alloc (.cells #[.int .u8 k, .int .i64 xa, .int .i64 xb, .int .u64 xw] 38) = w1 at *
  have HB2 := Lib.hid HB1.out
  have F0 : Hid (MM.Far [] w1 w1) := Lib.hid (MM.Far.refl _ _)
  clear hw1 HB1
  go_loopg [6] 3 (fun gg s6 wr => ∃ f : Nat, f + gg = 3 ∧ s6 = num f ∧ Hid (MM.Far [] w1 wr) ∧ Hid (∀ j : Nat, j < f → ot j = false))
  case atStart => exact ⟨0, by omega, rfl, F0, Lib.hid (fun j hj => by omega)⟩
  case round =>
    obtain ⟨f, hf, rfl, HFr, HA⟩ := hrel
    by_cases hlt : f < 3
    · obtain ⟨A, c, t1, t2, t3, t4⟩ := (HT.out.far (F1.out.trans HFr.out (by simp))).slot k hk
      have htl := (HT.out.far (F1.out.trans HFr.out (by simp))).lt
      have T4 := Lib.hid t4
      have hB := HB2.out.far HFr.out (by simp)
      have b0 : wr.cell? ⟨w.heap.size, 0, none⟩ = some (.int .u8 k) := hB.at (i := 0) rfl
      have HBr := Lib.hid hB
      have HOk := HO.out
      generalize own k = ow at *
      obtain ⟨m, hm⟩ : ∃ m, ow.length = m := ⟨_, rfl⟩
      rw [hm] at t1 t2
      have HM := Lib.hid hm
      have HOW := Lib.hid HOk
      clear hm t4 hB HOk HO
      unfold maxLen at t3
      generalize wr = w4 at *
      generalize gk = gg at *
      have HFb : Hid (∀ W, f < 3 → Calls Tryd.prog 33 #[.agg #[.int .u8 k, .int .i64 xa, .int .i64 xb, .int .u64 xw], num f] W fun e w' => e = .returned (.bool (fl f != 0)) ∧ w' = W.alloc (.cells #[.int .u8 k, .int .i64 xa, .int .i64 xb, .int .u64 xw] 38)) := Lib.hid (fun W h => HF.out f (by omega) W)
      have b1 : w4.cell? ⟨w.heap.size, 1, none⟩ = some (.int .i64 xa) := HBr.out.at (i := 1) rfl
      have b2 : w4.cell? ⟨w.heap.size, 2, none⟩ = some (.int .i64 xb) := HBr.out.at (i := 2) rfl
      have b3 : w4.cell? ⟨w.heap.size, 3, none⟩ = some (.int .u64 xw) := HBr.out.at (i := 3) rfl
      go_wp2_with (fail)
      go_loopg [14] m (fun gi s14 wz => ∃ j : Nat, j + gi = m ∧ s14 = num j ∧ w4 = wz ∧ Hid (∀ i : Nat, i < j → ow[i]? ≠ some (f : Int)))
      case atStart => exact ⟨0, by omega, rfl, rfl, Lib.hid (fun j hj => by omega)⟩
      case round =>
        obtain ⟨j, hj, rfl, rfl, HJ⟩ := hrel
        by_cases hjm : j < m
        · have hjl : j < ow.length := by rw [HM.out]; exact hjm
          obtain ⟨b, o, rfl, hbl, hcv⟩ := T4.out j _ (List.getElem?_eq_getElem hjl)
          have HV : Hid (ow[j]? = some ow[j]) := Lib.hid (List.getElem?_eq_getElem hjl)
          generalize ow[j] = v at *
          by_cases hv : (f : Int) = v
          · obtain rfl := hv
            have HOT : Hid (ot f = false) := Lib.hid (by
              rw [HOW.out]
              have : ow.contains (f : Int) = true := by rw [List.contains_iff_mem]; exact List.mem_of_getElem? HV.out
              rw [this]; rfl)
            go_wp2_with (fail)
            go_roundg (gg - 1)
            case measure => omega
            case rel => exact ⟨f + 1, by omega, by go_num, HFr, Lib.hid (fun i hi => by
              by_cases e : i = f
              · subst e; exact HOT.out
              · exact HA.out i (by omega))⟩
          · have hve : ((f : Int) == v) = false := by simpa using hv
            go_wp2_with (fail)
            go_roundg (gk - 1)
            case measure => omega
            case rel => exact ⟨j + 1, by omega, by go_num, rfl, Lib.hid (fun i hi => by
              by_cases e : i = j
              · subst e; rw [HV.out]; exact fun h => hv (by injection h with h; exact h.symm)
              · exact HJ.out i (by omega))⟩
        · have hno : ow.contains (f : Int) = false := by
            rw [← Bool.not_eq_true, List.contains_iff_mem]
            intro hm
            obtain ⟨i, hi, e⟩ := List.getElem_of_mem hm
            refine HJ.out i (by rw [HM.out] at hi; omega) ?_
            rw [List.getElem?_eq_getElem hi, e]
          have HOT : Hid (ot f = (fl f != 0)) := Lib.hid (by rw [HOW.out, hno]; rfl)
          clear hno
          cases hfl : (fl f != 0) with
          | true =>
            have HOT2 : Hid (ot f = true) := Lib.hid (HOT.out.trans hfl)
            rw [hfl] at HFb
            clear HOT hfl
            go_wp2_with (first | (go_at_call 33; refine (HFb.out _ hlt).mono ?_; rintro e w' ⟨rfl, rfl⟩))
            (try rw [Exit.noGoto_ret])
            go_ret
            refine ⟨?_, (F1.out.trans HFr.out (by simp)).alloc _⟩
            have h2 := HOT2.out
            have : R = true := by
              rw [HE.out]
              rcases (show f = 0 ∨ f = 1 ∨ f = 2 by omega) with rfl | rfl | rfl
              · have h2' : ot 0 = true := h2
                rw [h2']; rfl
              · have h2' : ot 1 = true := h2
                rw [h2']; simp
              · have h2' : ot 2 = true := h2
                rw [h2']; simp
            rw [this]; rfl
          | false =>
            have HOT2 : Hid (ot f = false) := Lib.hid (HOT.out.trans hfl)
            rw [hfl] at HFb
            clear HOT hfl
            go_wp2_with (first | (go_at_call 33; refine (HFb.out _ hlt).mono ?_; rintro e w' ⟨rfl, rfl⟩))
            go_roundg (gg - 1)
            case measure => omega
            case rel => exact ⟨f + 1, by omega, by go_num, Lib.hid (HFr.out.alloc _), Lib.hid (fun i hi => by
              by_cases e : i = f
              · subst e; exact HOT2.out
              · exact HA.out i (by omega))⟩
    · go_wp2_with (fail)
      (try rw [Exit.noGoto_ret])
      go_ret
      refine ⟨?_, F1.out.trans HFr.out (by simp)⟩
      obtain rfl : f = 3 := by omega
      rw [HE.out]
      have h0 := HA.out 0 (by omega)
      have h1 := HA.out 1 (by omega)
      have h2 := HA.out 2 (by omega)
      simp only [Int.natCast_zero, Int.natCast_one] at h0 h1
      rw [h0, h1]
      have h2' : ot 2 = false := h2
      rw [h2']; rfl
end KW
end Go.Proofs.YthhibcfljekibaaDoor
