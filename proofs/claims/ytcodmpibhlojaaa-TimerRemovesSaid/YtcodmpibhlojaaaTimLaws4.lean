/-
  TimerRemoves: those that are removed are told no more, and all others in their order. No condition.
-/
import Derived.Test.YtcodmpibhlojaaaTimGone
import Derived.BigQuiet
namespace Go.Proofs.Ytcodmpibhlojaaa
open Go.RowKit Go.Lib
namespace TW
open TM TR MM TL
/-- what Removes' last loop carries. -/
def RmI (X : List Int) (m left : Nat) (W wr : World) (p g : Nat) (s17 : Value) (j : Nat) : Prop :=
  ∃ r G, AtG W wr p r m g G ∧ Lf X m r G ∧ r.length = left - j ∧
    ((∃ z : Int, z < 0 ∧ s17 = .int .i64 z) ∨ ∃ q : Nat, q < m ∧ s17 = .int .i64 (q : Int) ∧ ∀ y ∈ r, X.getD q 0 < y.d ∨ (X.getD q 0 = y.d ∧ (q : Int) < y.n))
set_option maxHeartbeats 40000000 in
set_option maxRecDepth 20000 in
theorem removes_law (a0 : Option Addr) (len0 cap0 : Nat) (z0 : List Int) (a1 : Option Addr) (len1 cap1 : Nat) (z1 : List Bool) (W : World) (w0 : MR.Ints .i64 W a0 len0 cap0 z0) (w1 : Bools W a1 len1 cap1 z1) :
    Calls Try.prog 6 #[.slice a0 len0 cap0, .slice a1 len1 cap1] W fun e w' => e = .returned (.bool true) ∧ Below W.heap.size W w' := by
  have HZ := Lib.hid w0
  have hle := w0.le
  have hmx := w0.max
  have hnil := w0.nil
  have hzl := w0.len_
  unfold maxLen at hmx
  obtain ⟨m, hm⟩ : ∃ m, m = min len0 64 := ⟨_, rfl⟩
  have hm1 : m ≤ len0 := by omega
  have hm2 : m ≤ 64 := by omega
  have HM := Lib.hid hm
  have hHC : 0 < m → ∃ b off, a0 = some ⟨b, off, none⟩ ∧ ∀ i, i < m → ∀ wr, Far [] W wr → wr.cell? ⟨b, off + i, none⟩ = some (.int .i64 ((z0.take m).getD i 0)) := fun h => cut_cells w0 m hm1 h
  obtain ⟨X, hX⟩ : ∃ X, X = z0.take m := ⟨_, rfl⟩
  have hXl : X.length = m := by rw [hX, List.length_take]; omega
  rw [← hX] at hHC
  have HC := Lib.hid hHC
  have HXL := Lib.hid hXl
  have hXd : ∀ i, X.getD i 0 ≤ 9223372036854775807 := fun i => by
    by_cases hi : i < X.length
    · have e : X.getD i 0 = X[i] := by simp [List.getD, hi]
      rw [e]
      have h1 : X[i] ∈ X := List.getElem_mem hi
      have h2 := w0.wf _ ((show ∀ y, y ∈ X → y ∈ z0 from fun y hy => List.mem_of_mem_take (i := m) (by rw [hX] at hy; exact hy)) _ h1)
      simp [Lit.wf, IntKind.min, IntKind.max, IntKind.signed, IntKind.bits] at h2
      omega
    · simp [List.getD, hi]
  have HXD := Lib.hid hXd
  have HB := Lib.hid w1
  have hle1 := w1.le
  have hmx1 := w1.max
  unfold maxLen at hmx1
  clear w0 w1 hm hHC hX hzl hXl hXd
  go_enter Try.func6, Try.ntmps6
  go_upto_region 5 with (first
    | (go_at_call 8; refine (shown_any W).mono ?_; rintro e w1 ⟨rfl, h1⟩; have HS := Lib.hid h1; clear h1)
    | (go_at_call 9; refine (at_new W _ HS.out).mono ?_; rintro e wa ⟨p, rfl, h1⟩; have H := Lib.hid h1; clear h1))
  go_cut [7] (fun s7 wx => s7 = .slice a0 m cap0 ∧ wx = wa)
  case first =>
    have hm := HM.out
    cases a0 with
    | none =>
      obtain rfl : cap0 = 0 := hnil rfl
      obtain rfl : len0 = 0 := by omega
      obtain rfl : m = 0 := by omega
      clear hm
      go_wp2
      go_meet
      exact ⟨rfl, rfl⟩
    | some ad =>
      by_cases h26 : len0 ≤ 64
      · obtain rfl : m = len0 := by omega
        clear hm
        go_wp2
        go_meet
        first | exact ⟨rfl, rfl⟩ | (rw [show (min (m : Int) 64).toNat = m from by omega]; exact ⟨rfl, rfl⟩)
      · obtain rfl : m = 64 := by omega
        clear hm
        go_wp2
        go_meet
        first | exact ⟨rfl, rfl⟩ | (rw [show (min (len0 : Int) 64).toNat = 64 from by omega]; exact ⟨rfl, rfl⟩)
  case rest =>
    obtain ⟨rfl, hwc⟩ := hcut
    subst hwc
    clear HM hnil HS
    go_wp2_with (fail)
    go_loopg [33] m (fun gg s33 wr => ∃ k : Nat, k ≤ m ∧ m - k ≤ gg ∧ s33 = .int .i64 k ∧ Hid (∃ l, Rel l (LL 0 (X.take k)) ∧ At W wr p l k))
    case atStart => exact ⟨0, by omega, by omega, rfl, Lib.hid ⟨[], by simpa [LL] using Rel.nil, H.out⟩⟩
    case round =>
      obtain ⟨k, hk, hg, rfl, hH⟩ := hrel
      by_cases hlt : k < m
      · have hltz : (k : Int) < (m : Int) := by omega
        obtain ⟨b, off, rfl, hcell⟩ := HC.out (by omega)
        obtain ⟨l, hRel, hA⟩ := hH.out
        have hc := hcell k hlt wr hA.far
        have hll : l.length = k := by rw [hRel.len, LL_len, List.length_take]; have := HXL.out; omega
        have HP := Lib.hid (at_put hA (by omega) (by omega) (X.getD k 0) k _ rfl)
        have HR := Lib.hid (step_getD hRel (by have := HXL.out; omega))
        generalize hxd : X.getD k 0 = d at *
        clear hcell hRel hA hll hxd H
        go_wp2_with (go_at_call 10; (refine HP.out.mono ?_); rintro e w2 ⟨rfl, h2⟩; have H2 := Lib.hid h2; clear h2)
        go_roundg (m - (k + 1))
        case measure => omega
        case rel => exact ⟨k + 1, by omega, by omega, by go_num, Lib.hid ⟨_, HR.out, H2.out⟩⟩
      · have hltz : ¬ (k : Int) < (m : Int) := by omega
        have : k = m := by omega
        subst this
        obtain ⟨l, hRel, hA⟩ := hH.out
        rw [List.take_of_length_le (by have := HXL.out; omega)] at hRel
        have hll : l.length = k := by rw [hRel.len, LL_len]; exact HXL.out
        have hnew := AtG.new hA k
        have hL0 : Lf X k l (List.replicate k false) := by
          refine ⟨hRel.sorted, ?_, fun y hy => ?_, fun y hy i hi => ?_, by simp⟩
          · have h1 : (LL 0 X).Pairwise fun x y => x.n ≠ y.n := hRel.num.imp (fun h => by omega)
            exact (hRel.perm.pairwise_iff (R := fun x y : Ti => x.n ≠ y.n) (fun h e => h e.symm)).2 h1
          · obtain ⟨i, hi, e⟩ := LL_one y X (hRel.perm.mem_iff.1 hy)
            exact ⟨i, by rw [← HXL.out]; exact hi, e⟩
          · simp [List.getD, List.getElem?_replicate]
            split <;> rfl
        have hmem : ∀ i, i < k → (⟨X.getD i 0, i, i⟩ : Ti) ∈ l := fun i hi => by
          refine hRel.perm.mem_iff.2 ?_
          have := LL_get X i (by rw [HXL.out]; exact hi)
          have e : X[i]'(by rw [HXL.out]; exact hi) = X.getD i 0 := by simp [List.getD, show i < X.length by rw [HXL.out]; exact hi]
          rw [e] at this
          exact List.mem_of_getElem? this
        have HN := Lib.hid hnew
        have HL0 := Lib.hid hL0
        have HMem := Lib.hid hmem
        have HLL := Lib.hid hll
        clear hRel hA hnew hL0 hmem hH H
        have hmk := mk_bools k hm2 wr
        have hgl : wr.heap.size = wr.heap.size := rfl
        obtain ⟨g, hg0⟩ : ∃ g, g = wr.heap.size := ⟨_, rfl⟩
        obtain ⟨V, hV⟩ : ∃ V, V = wr.alloc (.cells (List.replicate k (Value.bool false)).toArray 4) := ⟨_, rfl⟩
        rw [← hg0, ← hV] at hmk
        rw [← hg0, ← hV] at HN
        clear hg0 hV hgl
        go_upto_region 15 with (fail)
        clear hmk
        go_wp2_with (fail)
        go_loopg [8, 53] k (fun gg s8 s53 wx => ∃ i left : Nat, i ≤ k ∧ left ≤ i ∧ k - i ≤ gg ∧ s53 = .int .i64 i ∧ s8 = .int .i64 left ∧
          Hid (∃ l G, AtG W wx p l k g G ∧ Lf X k l G ∧ l.length + i = k + left ∧ ∀ j, i ≤ j → j < k → (⟨X.getD j 0, j, j⟩ : Ti) ∈ l))
        case atStart => exact ⟨0, 0, by omega, by omega, by omega, rfl, rfl, Lib.hid ⟨l, _, HN.out, HL0.out, by have := HLL.out; omega, fun j _ hj => HMem.out j hj⟩⟩
        case round =>
          obtain ⟨i, left, hi, hli, hg2, rfl, rfl, hI⟩ := hrel
          obtain ⟨l2, G, hA, hL, hlen, hmem⟩ := hI.out
          have hl64 : l2.length ≤ 64 := by omega
          by_cases hik : i < k
          · have hiz : (i : Int) < (k : Int) := by omega
            have hkeep : Hid (∀ wx, Far [] wr wx → AtG W wx p l2 k g G → ∃ l G, AtG W wx p l k g G ∧ Lf X k l G ∧ l.length + (i + 1) = k + (left + 1) ∧ ∀ j, i + 1 ≤ j → j < k → (⟨X.getD j 0, j, j⟩ : Ti) ∈ l) := Lib.hid (fun wx _ h => ⟨l2, G, h, hL, by omega, fun j hj => hmem j (by omega)⟩)
            by_cases hlo : i < len1
            · have hloz : (i : Int) < (len1 : Int) := by omega
              obtain ⟨b, off, rfl, hcb⟩ := bool_cells HB.out (by omega)
              have hcell := hcb i hlo wr hA.far
              obtain ⟨r, hR, hLr, hrl, hrm⟩ := hL.number i (hmem i (Nat.le_refl _) hik)
              have HP := Lib.hid (ag_remove hA hl64 i i r hR)
              have hGl : G.length = k := hL.len
              have HGo : Hid (∀ wx, AtG W wx p r k g (G.set i true) → ∃ l G, AtG W wx p l k g G ∧ Lf X k l G ∧ l.length + (i + 1) = k + left ∧ ∀ j, i + 1 ≤ j → j < k → (⟨X.getD j 0, j, j⟩ : Ti) ∈ l) := Lib.hid (fun wx h => ⟨r, _, h, hLr, by omega, fun j hj hjk => hrm _ (hmem j (by omega) hjk) (by simp; omega)⟩)
              have HA := Lib.hid hA
              generalize z1.getD i false = bi at *
              clear hcb hA hL hlen hmem hR hLr hrl hrm hI HN HL0 HMem HLL
              cases bi with
              | true =>
                go_wp2_with (go_at_call 14; (refine HP.out.mono ?_); rintro e w2 ⟨rfl, h2⟩; obtain ⟨y1, y2⟩ := h2.cell i (by omega); have H2 := Lib.hid h2; clear h2)
                go_roundg (k - (i + 1))
                case measure => omega
                case rel => exact ⟨i + 1, left, by omega, by omega, by omega, by go_num, rfl, Lib.hid (HGo.out _ (H2.out.set i))⟩
              | false =>
                go_wp2_with (fail)
                go_roundg (k - (i + 1))
                case measure => omega
                case rel => exact ⟨i + 1, left + 1, by omega, by omega, by omega, by go_num, by go_num, Lib.hid (hkeep.out _ (Far.refl _ _) HA.out)⟩
            · have hloz : ¬ (i : Int) < (len1 : Int) := by omega
              have HA := Lib.hid hA
              clear hA hL hlen hmem hI HN HL0 HMem HLL
              go_wp2_with (fail)
              go_roundg (k - (i + 1))
              case measure => omega
              case rel => exact ⟨i + 1, left + 1, by omega, by omega, by omega, by go_num, by go_num, Lib.hid (hkeep.out _ (Far.refl _ _) HA.out)⟩
          · have hiz : ¬ (i : Int) < (k : Int) := by omega
            have hik2 : i = k := by omega
            have hO : RmI X k left W wr p g (.int .i64 (-1)) 0 := ⟨l2, G, hA, hL, by omega, .inl ⟨-1, by omega, rfl⟩⟩
            have HO := Lib.hid hO
            clear hA hL hlen hmem hI HN HL0 HMem HLL hO
            go_wp2_with (fail)
            go_loopg [17, 86] left (fun gg s17 s86 wx => ∃ j : Nat, j ≤ left ∧ left - j ≤ gg ∧ s86 = .int .i64 j ∧ Hid (RmI X k left W wx p g s17 j))
            case atStart => exact ⟨0, by omega, by omega, rfl, HO⟩
            case round =>
              obtain ⟨j, hj, hg3, rfl, hJ⟩ := hrel
              obtain ⟨r, G2, hA, hL, hl, hlast⟩ := hJ.out
              have HLast := Lib.hid hlast
              clear hlast
              by_cases hjl : j < left
              · have hjz : (j : Int) < (left : Int) := by omega
                obtain ⟨b, off, rfl, hcell⟩ := HC.out (by omega)
                cases r with
                | nil => simp at hl; omega
                | cons y t =>
                  obtain ⟨q0, hq0, hy⟩ := hL.form y (List.mem_cons_self ..)
                  subst hy
                  have hG0 : G2.getD q0 false = false := hL.stay _ (List.mem_cons_self ..) q0 rfl
                  have hGl : G2.length = k := hL.len
                  have hs := hL.sorted
                  unfold Sorted at hs
                  rw [List.pairwise_cons] at hs
                  have hLt : Lf X k t (G2.set q0 true) := by
                    have := hL.erase 0 (by simp) q0 rfl
                    simpa using this
                  have hyd : X.getD q0 0 ≤ 9223372036854775807 := HXD.out q0
                  have HP := Lib.hid (ag_due hA (by rw [hl]; omega) 9223372036854775807 (q0 : Int) t (tk_due_yes _ _ t hyd))
                  have HNx : Hid (∀ wx, AtG W wx p t k g (G2.set q0 true) → RmI X k left W wx p g (.int .i64 (q0 : Int)) (j + 1)) := Lib.hid (fun wx h => ⟨t, _, h, hLt, by simp at hl; omega, .inr ⟨q0, hq0, rfl, fun z hz => hs.1 z hz⟩⟩)
                  have hiz2 : (q0 : Int) < (k : Int) := by omega
                  have hi0 : ¬ ((q0 : Int) < 0) := by omega
                  have hlast := HLast.out
                  clear HLast
                  rcases hlast with ⟨z, hz, rfl⟩ | ⟨q, hq, rfl, hqy⟩
                  · have HB1 : Hid (decide ((q0 : Int) < 0) = false) := Lib.hid (decide_eq_false (by omega))
                    have HB2 : Hid (decide (k ≤ q0) = false) := Lib.hid (decide_eq_false (by omega))
                    have HB4 : Hid (decide ((0 : Int) ≤ z) = false) := Lib.hid (decide_eq_false (by omega))
                    clear hA hL hl hcell hJ HO hs hLt hyd
                    go_wp2_with (go_at_call 12; (refine HP.out.mono ?_); rintro e w2 ⟨rfl, h2⟩; obtain ⟨y1, y2⟩ := h2.cell q0 (by omega); rw [hG0] at y1; have H2 := Lib.hid h2; clear h2)
                    refine wp_region_quiet_lit (by kernel_rfl) (by kernel_rfl) ?_
                    iterate 5 (go_big_quiet_step (fail))
                    rw [HB1.out]
                    iterate 6 (go_big_quiet_step (fail))
                    rw [HB2.out]
                    iterate 10 (go_big_quiet_step (fail))
                    rw [HB4.out]
                    repeat (go_big_quiet_step (fail))
                    refine wpQuiet_nil ?_
                    intro _ hw'
                    obtain ⟨nq, hw''⟩ := hw'
                    subst hw''
                    go_wp2
                    go_roundg (left - (j + 1))
                    case measure => omega
                    case rel => exact ⟨j + 1, by omega, by omega, by go_num, Lib.hid (HNx.out _ ((H2.out.to ((Far.refl [] _).drewN _)).set q0))⟩
                  · have hle2 := hqy _ (List.mem_cons_self ..)
                    have hld : ∀ wx, Far [] W wx → wx.cell? ⟨b, off + q0, none⟩ = some (.int .i64 (X.getD q0 0)) ∧ wx.cell? ⟨b, off + q, none⟩ = some (.int .i64 (X.getD q 0)) := fun wx h => ⟨hcell q0 hq0 wx h, hcell q hq wx h⟩
                    have HLD := Lib.hid hld
                    simp only at hle2
                    generalize X.getD q0 0 = xi at *
                    generalize X.getD q 0 = xq at *
                    have hqz : (q : Int) < (k : Int) := by omega
                    have hlt1 : ¬ (xi < xq) := by omega
                    clear hA hL hl hcell hJ HO hs hLt hyd hld hqy
                    have hq0n : ¬ ((q : Int) < 0) := by omega
                    have hq0' : (0 : Int) ≤ (q : Int) := by omega
                    rcases hle2 with hlq | ⟨rfl, hqi⟩
                    · have hne : ¬ (xi = xq) := by omega
                      go_wp2_with (go_at_call 12; (refine HP.out.mono ?_); rintro e w2 ⟨rfl, h2⟩; obtain ⟨x1, x2⟩ := HLD.out w2 h2.far; obtain ⟨y1, y2⟩ := h2.cell q0 (by omega); rw [hG0] at y1; have H2 := Lib.hid h2; clear h2)
                      go_quiet (fail)
                      go_wp2
                      go_roundg (left - (j + 1))
                      case measure => omega
                      case rel => exact ⟨j + 1, by omega, by omega, by go_num, Lib.hid (HNx.out _ ((H2.out.to ((Far.refl [] _).drewN _)).set q0))⟩
                    · have hnle : ¬ ((q0 : Int) < (q : Int)) := by omega
                      go_wp2_with (go_at_call 12; (refine HP.out.mono ?_); rintro e w2 ⟨rfl, h2⟩; obtain ⟨x1, x2⟩ := HLD.out w2 h2.far; obtain ⟨y1, y2⟩ := h2.cell q0 (by omega); rw [hG0] at y1; have H2 := Lib.hid h2; clear h2)
                      go_quiet (fail)
                      go_wp2
                      go_roundg (left - (j + 1))
                      case measure => omega
                      case rel => exact ⟨j + 1, by omega, by omega, by go_num, Lib.hid (HNx.out _ ((H2.out.to ((Far.refl [] _).drewN _)).set q0))⟩
              · have hjz : ¬ (j : Int) < (left : Int) := by omega
                have hr0 : r = [] := List.eq_nil_of_length_eq_zero (by rw [hl]; omega)
                subst hr0
                have H3 := Lib.hid hA.at_
                have HX1 : Hid (Calls Try.prog 16 #[ptr p] wr fun e w' => e = .returned (.tuple #[.int .i64 0, .bool false]) ∧ wr = w') := Lib.hid (at_next hA.at_)
                have HX2 : Hid (Calls Try.prog 18 #[ptr p] wr fun e w' => e = .returned (.int .i64 0) ∧ wr = w') := Lib.hid (at_len hA.at_)
                clear hA hL HLast hJ HO HC
                go_wp2_with (first
                  | (go_at_call 16; (refine HX1.out.mono ?_); rintro e w3 ⟨rfl, rfl⟩)
                  | (go_at_call 18; (refine HX2.out.mono ?_); rintro e w3 ⟨rfl, rfl⟩))
                go_ret
                exact ⟨rfl, H3.out.far.below_nil⟩
end TW
end Go.Proofs.Ytcodmpibhlojaaa
