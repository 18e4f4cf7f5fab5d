/-
  Contract of layer 11's code: lead, which tells each successor how many words are ahead of it. Conditions: sizes.
-/
import Derived.Test.YthhibcfljekibaaDoorCodeC1
import Derived.Deep.DeepCutAuto
namespace Go.Proofs.YthhibcfljekibaaDoor
open Go.RowKit
set_option linter.unusedVariables false
namespace KW
open KP
/-- What lead leaves. -/
def LeadQ (R : Option (List Int)) (n g : Nat) (w : World) (e : Ending) (w' : World) : Prop :=
  ∃ d', e = .returned (.bool R.isSome) ∧ MM.Row w' g 3 (ints d') ∧ d'.length = n ∧ (∀ v, R = some v → d' = v) ∧ MM.Far [g] w w'
theorem ints_at {d : List Int} {j : Nat} (h : j < d.length) : (ints d)[j]? = some (num (at_ d j)) := by
  unfold at_ ints
  rw [List.getElem?_map, List.getElem?_eq_getElem h]
  simp [List.getD, h]
theorem ints_set (d : List Int) (j : Nat) (v : Int) : (ints d).set j (num v) = ints (d.set j v) := by simp [ints, List.map_set]
theorem succs_len (i : Int) (x : Ki) : (succs i x).length ≤ 2 := by
  unfold succs
  split
  · simp
  split
  · simp
  split <;> simp
theorem far_in {g : Nat} {w w' : World} (h : MM.Far [] w w') : MM.Far [g] w w' := h.mono (by simp)
set_option maxHeartbeats 4000000 in
set_option maxRecDepth 20000 in
theorem lead_any (d : List Int) (n : Nat) (hn : d.length = n) (c i : Nat) (x : Ki) (g : Nat) (w : World) (hr : MM.Row w g 3 (ints d)) (hi : i < n) (hlen : n < 1000000000) (h0 : 0 ≤ at_ d i) (h1 : at_ d i < 1000000000) :
    Calls Tryd.prog 17 #[.slice (some ⟨g, 0, none⟩) n c, num i, val x] w (LeadQ (lead d i x) n g w) := by
  obtain ⟨R, hR⟩ : ∃ R, lead d i x = R := ⟨_, rfl⟩
  rw [hR]
  unfold lead at hR
  have HP := Lib.hid (fun W => pops_any x W)
  have HS := Lib.hid (fun W => succs_any i (by omega) x W)
  have HS5 := Lib.hid (succs_len i x)
  obtain ⟨op, a, b, v⟩ := x
  have HPu : Hid (pushes ⟨op, a, b, v⟩ = if op = 7 then 1 else 0) := Lib.hid rfl
  generalize pops ⟨op, a, b, v⟩ = p at *
  generalize succs i ⟨op, a, b, v⟩ = ss at *
  generalize pushes ⟨op, a, b, v⟩ = pu at *
  have hdi : w.cell? ⟨g, i, none⟩ = some (num (at_ d i)) := hr.at (ints_at (by omega))
  have hgl := hr.lt
  generalize hq : at_ d i = q at *
  have HN := Lib.hid hn
  have HR := Lib.hid hR
  have Hr := Lib.hid hr
  clear hR hq hn hr
  have FB := Lib.hid (((MM.Far.refl [g] w).alloc (.cells #[.int .u8 op, .int .i64 a, .int .i64 b, .int .u64 v] 38)).alloc (.cells #[.int .u8 op, .int .i64 a, .int .i64 b, .int .u64 v] 38))
  have HrB := Lib.hid ((Hr.out.alloc (.cells #[.int .u8 op, .int .i64 a, .int .i64 b, .int .u64 v] 38)).alloc (.cells #[.int .u8 op, .int .i64 a, .int .i64 b, .int .u64 v] 38))
  show Calls Tryd.prog 17 #[.slice (some ⟨g, 0, none⟩) n c, num i, .agg #[.int .u8 op, .int .i64 a, .int .i64 b, .int .u64 v]] w _
  go_enter Tryd.func17, Tryd.ntmps17
  by_cases hp0 : p < 0
  · have hRn : R = none := by have := HR.out; rw [if_pos hp0] at this; exact this.symm
    subst hRn
    go_wp2_with (first | (go_at_call 23; refine (HP.out _).mono ?_; rintro e w' ⟨rfl, rfl⟩))
    go_ret
    exact ⟨d, rfl, HrB.out, HN.out, (fun v e => by cases e), FB.out⟩
  · by_cases hp1 : q < p
    · have hRn : R = none := by have := HR.out; rw [if_neg hp0, if_pos hp1] at this; exact this.symm
      subst hRn
      go_wp2_with (first | (go_at_call 23; refine (HP.out _).mono ?_; rintro e w' ⟨rfl, rfl⟩))
      go_ret
      exact ⟨d, rfl, HrB.out, HN.out, (fun v e => by cases e), FB.out⟩
    · have hR2 : Hid (marks d i (q - p + pu) ss = R) := Lib.hid (by have := HR.out; rw [if_neg hp0, if_neg hp1] at this; exact this)
      clear HR
      go_upto_if 31 with (first | (go_at_call 23; refine (HP.out _).mono ?_; rintro e w' ⟨rfl, rfl⟩))
      go_cut [8] (fun s8 wx => s8 = num (q - p + pu) ∧ wx = (w.alloc (.cells #[.int .u8 op, .int .i64 a, .int .i64 b, .int .u64 v] 38)).alloc (.cells #[.int .u8 op, .int .i64 a, .int .i64 b, .int .u64 v] 38))
      case first =>
        by_cases h7 : op = 7
        · subst h7
          obtain rfl : pu = 1 := HPu.out
          go_wp2
          go_meet
          exact ⟨rfl, rfl⟩
        · have e7 : (op == 7) = false := by simpa using h7
          obtain rfl : pu = 0 := by have := HPu.out; rw [if_neg h7] at this; exact this
          go_wp2
          go_meet
          exact ⟨by simp, rfl⟩
      case rest =>
        obtain ⟨rfl, rfl⟩ := hcut
        generalize hw1 : (w.alloc (.cells #[.int .u8 op, .int .i64 a, .int .i64 b, .int .u64 v] 38)).alloc (.cells #[.int .u8 op, .int .i64 a, .int .i64 b, .int .u64 v] 38) = w1 at *
        have hbx : w1.cell? ⟨w.heap.size, 0, none⟩ = some (.int .u8 op) ∧ w1.cell? ⟨w.heap.size, 1, none⟩ = some (.int .i64 a) ∧ w1.cell? ⟨w.heap.size, 2, none⟩ = some (.int .i64 b) ∧ w1.cell? ⟨w.heap.size, 3, none⟩ = some (.int .u64 v) := by
          have hb := (MM.Row.new w 38 [.int .u8 op, .int .i64 a, .int .i64 b, .int .u64 v]).alloc (.cells #[.int .u8 op, .int .i64 a, .int .i64 b, .int .u64 v] 38)
          rw [hw1] at hb
          exact ⟨hb.at (i := 0) rfl, hb.at (i := 1) rfl, hb.at (i := 2) rfl, hb.at (i := 3) rfl⟩
        obtain ⟨x0, x1, x2, x3⟩ := hbx
        clear hw1 HP
        go_wp2_with (first | (go_at_call 24; refine (HS.out _).mono ?_; rintro e w2 ⟨A, c2, rfl, hL, hF2⟩))
        have hs2 : ∀ b0 ∈ [g], b0 < w1.heap.size := by intro b0 hb0; simp at hb0; subst hb0; exact HrB.out.lt
        have hr2 := Lib.hid (HrB.out.far hF2 (by simp))
        have F2 := Lib.hid (FB.out.trans hF2 (by simp))
        have HL := Lib.hid hL
        have HS2 := Lib.hid hs2
        have F0 : Hid (MM.Far [g] w2 w2) := Lib.hid (MM.Far.refl _ _)
        clear hL hF2 hs2 x0 x1 x2 x3 hdi HS
        obtain ⟨m, hm⟩ : ∃ m, ss.length = m := ⟨_, rfl⟩
        rw [hm]
        have HM := Lib.hid hm
        clear hm
        have hm9 : m < 1000000000 := by have := HM.out; have := HS5.out; omega
        obtain ⟨left, hleft⟩ : ∃ left, q - p + pu = left := ⟨_, rfl⟩
        rw [hleft] at hR2 ⊢
        clear hleft
        go_loopw [38] (fun s38 wr => ∃ (k : Nat) (d' : List Int), k ≤ m ∧ s38 = num k ∧ Hid (d'.length = n) ∧ Hid (MM.Row wr g 3 (ints d')) ∧ Hid (MM.Far [g] w2 wr) ∧ Hid (marks d' i left (ss.drop k) = R)) (fun s38 _ => m - (intOf s38).toNat)
        case atStart => exact ⟨0, d, by omega, rfl, HN, hr2, F0, hR2⟩
        case round =>
          obtain ⟨k, d', hk, rfl, HN', Hr', HF', HR'⟩ := hrel
          by_cases hlt : k < m
          · have hkl : k < ss.length := by rw [HM.out]; exact hlt
            obtain ⟨b0, rfl, hb1, hb2, hc⟩ := (HL.out.far HF'.out HS2.out) k _ (List.getElem?_eq_getElem hkl)
            have hR'' := HR'.out
            rw [List.drop_eq_getElem_cons hkl] at hR''
            generalize ss[k] = nx at *
            unfold KP.marks KP.mark at hR''
            have hrg := Hr'.out.lt
            have hd9 : d'.length = n := HN'.out
            rw [hd9] at hR''
            have HE := Lib.hid hR''
            have HD9 := Lib.hid hd9
            clear hR'' hd9
            by_cases c1 : nx ≤ (i : Int)
            · obtain rfl : R = none := by have := HE.out; rw [if_pos c1] at this; exact this.symm
              clear HE
              go_wp2_with (fail)
              go_ret
              exact ⟨d', rfl, Hr'.out, HN'.out, (fun v e => by cases e), F2.out.trans HF'.out (fun b1 h1 _ => h1)⟩
            · by_cases c2 : (n : Int) ≤ nx
              · obtain rfl : R = none := by have := HE.out; rw [if_neg c1, if_pos c2] at this; exact this.symm
                clear HE
                go_wp2_with (fail)
                go_ret
                exact ⟨d', rfl, Hr'.out, HN'.out, (fun v e => by cases e), F2.out.trans HF'.out (fun b1 h1 _ => h1)⟩
              · obtain ⟨j, rfl⟩ : ∃ j : Nat, nx = j := ⟨nx.toNat, by omega⟩
                have hj : j < n := by omega
                have hcj : wr.cell? ⟨g, j, none⟩ = some (num (at_ d' j)) := Hr'.out.at (ints_at (by rw [HD9.out]; exact hj))
                have HE2 := Lib.hid HE.out
                obtain ⟨q', hq'⟩ : ∃ q', at_ d' j = q' := ⟨_, rfl⟩
                have HE3 : Hid ((match (if q' ≠ -1 ∧ q' ≠ left then none else some (d'.set j left)) with | none => none | some d' => marks d' i left (ss.drop (k + 1))) = R) := Lib.hid (by
                  have := HE.out
                  rw [if_neg c1, if_neg c2, Int.toNat_natCast, hq'] at this
                  exact this)
                rw [hq'] at hcj
                have hfz : wr.frozen? ⟨g, j, none⟩ = false := Hr'.out.frozen j
                clear HE HE2 hq'
                by_cases c3 : q' = -1
                · subst c3
                  have HE4 : Hid (marks (d'.set j left) i left (ss.drop (k + 1)) = R) := Lib.hid (by have := HE3.out; rw [if_neg (by simp)] at this; exact this)
                  clear HE3
                  go_wp2_with (fail)
                  go_roundw
                  case rel => exact ⟨k + 1, d'.set j left, by omega, by go_num, Lib.hid (by rw [List.length_set]; exact HN'.out), Lib.hid (by rw [← ints_set]; exact Hr'.out.put j _), Lib.hid (HF'.out.setCell (by simp) _), HE4⟩
                  case measure => simp [intOf]; omega
                · by_cases c4 : q' = left
                  · subst c4
                    have HE4 : Hid (marks (d'.set j q') i q' (ss.drop (k + 1)) = R) := Lib.hid (by have := HE3.out; rw [if_neg (by simp)] at this; exact this)
                    have e3 : (q' == -1) = false := by simpa using c3
                    have e5 : (q' != -1) = true := by simpa using c3
                    clear HE3
                    go_wp2_with (fail)
                    go_roundw
                    case rel => exact ⟨k + 1, d'.set j q', by omega, by go_num, Lib.hid (by rw [List.length_set]; exact HN'.out), Lib.hid (by rw [← ints_set]; exact Hr'.out.put j _), Lib.hid (HF'.out.setCell (by simp) _), HE4⟩
                    case measure => simp [intOf]; omega
                  · obtain rfl : R = none := by have := HE3.out; rw [if_pos ⟨c3, c4⟩] at this; exact this.symm
                    have e3 : (q' == -1) = false := by simpa using c3
                    have e4 : (q' == left) = false := by simpa using c4
                    have e5 : (q' != -1) = true := by simpa using c3
                    have e6 : (q' != left) = true := by simpa using c4
                    clear HE3
                    go_wp2_with (fail)
                    go_ret
                    exact ⟨d', rfl, Hr'.out, HN'.out, (fun v e => by cases e), F2.out.trans HF'.out (fun b1 h1 _ => h1)⟩
          · obtain rfl : R = some d' := by
              have := HR'.out
              rw [List.drop_eq_nil_of_le (by rw [HM.out]; omega)] at this
              exact this.symm
            go_wp2_with (fail)
            go_ret
            exact ⟨d', rfl, Hr'.out, HN'.out, (fun v e => by injection e), F2.out.trans HF'.out (fun b1 h1 _ => h1)⟩
end KW
end Go.Proofs.YthhibcfljekibaaDoor
