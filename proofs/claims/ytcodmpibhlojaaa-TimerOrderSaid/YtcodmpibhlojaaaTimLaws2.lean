/-
  TimerOrder: what is due comes, the earliest first, of the same time what was put first. No condition.
-/
import Derived.Test.YtcodmpibhlojaaaTimCut
import Derived.BigQuiet
namespace Go.Proofs.Ytcodmpibhlojaaa
open Go.RowKit Go.Lib
namespace TW
open TM TR MM TL
/-- what Order's second loop carries. -/
def OrdI (X : List Int) (now : Int) (m many : Nat) (W wr : World) (p : Nat) (s13 : Value) (j : Nat) : Prop :=
  ∃ r, At W wr p r m ∧ Sorted r ∧ r.length = m - j ∧ r.countP (dueB now) = many - j ∧ (∀ y ∈ r, ∃ i : Nat, i < m ∧ y = ⟨X.getD i 0, i, i⟩) ∧
    ((∃ z : Int, z < 0 ∧ s13 = .int .i64 z) ∨ ∃ q : Nat, q < m ∧ s13 = .int .i64 (q : Int) ∧ ∀ y ∈ r, X.getD q 0 < y.d ∨ (X.getD q 0 = y.d ∧ (q : Int) < y.n))
set_option maxHeartbeats 40000000 in
set_option maxRecDepth 20000 in
theorem order_law (a0 : Option Addr) (len0 cap0 : Nat) (z0 : List Int) (now : Int) (W : World) (w0 : MR.Ints .i64 W a0 len0 cap0 z0) :
    Calls Try.prog 4 #[.slice a0 len0 cap0, .int .i64 now] W fun e w' => e = .returned (.bool true) ∧ Below W.heap.size W w' := by
  have HZ := Lib.hid w0
  have hle := w0.le
  have hmx := w0.max
  have hnil := w0.nil
  have hzl := w0.len_
  unfold maxLen at hmx
  obtain ⟨m, hm⟩ : ∃ m, m = min len0 64 := ⟨_, rfl⟩
  have hm1 : m ≤ len0 := by omega
  have hm2 : m ≤ 64 := by omega
  have HM := Lib.hid hm
  have hHC : 0 < m → ∃ b off, a0 = some ⟨b, off, none⟩ ∧ ∀ i, i < m → ∀ wr, Far [] W wr → wr.cell? ⟨b, off + i, none⟩ = some (.int .i64 ((z0.take m).getD i 0)) := fun h => cut_cells w0 m hm1 h
  obtain ⟨X, hX⟩ : ∃ X, X = z0.take m := ⟨_, rfl⟩
  have hXl : X.length = m := by rw [hX, List.length_take]; omega
  rw [← hX] at hHC
  have HC := Lib.hid hHC
  have HXL := Lib.hid hXl
  clear w0 hm hHC hX hzl hXl
  go_enter Try.func4, Try.ntmps4
  go_upto_region 5 with (first
    | (go_at_call 8; refine (shown_any W).mono ?_; rintro e w1 ⟨rfl, h1⟩; have HS := Lib.hid h1; clear h1)
    | (go_at_call 9; refine (at_new W _ HS.out).mono ?_; rintro e wa ⟨p, rfl, h1⟩; have H := Lib.hid h1; clear h1))
  go_cut [7] (fun s7 wx => s7 = .slice a0 m cap0 ∧ wx = wa)
  case first =>
    have hm := HM.out
    cases a0 with
    | none =>
      obtain rfl : cap0 = 0 := hnil rfl
      obtain rfl : len0 = 0 := by omega
      obtain rfl : m = 0 := by omega
      clear hm
      go_wp2
      go_meet
      exact ⟨rfl, rfl⟩
    | some ad =>
      by_cases h26 : len0 ≤ 64
      · obtain rfl : m = len0 := by omega
        clear hm
        go_wp2
        go_meet
        first | exact ⟨rfl, rfl⟩ | (rw [show (min (m : Int) 64).toNat = m from by omega]; exact ⟨rfl, rfl⟩)
      · obtain rfl : m = 64 := by omega
        clear hm
        go_wp2
        go_meet
        first | exact ⟨rfl, rfl⟩ | (rw [show (min (len0 : Int) 64).toNat = 64 from by omega]; exact ⟨rfl, rfl⟩)
  case rest =>
    obtain ⟨rfl, hwc⟩ := hcut
    subst hwc
    clear HM hnil HS
    go_wp2_with (fail)
    go_loopg [8, 29] m (fun gg s8 s29 wr => ∃ k : Nat, k ≤ m ∧ m - k ≤ gg ∧ s29 = .int .i64 k ∧ s8 = .int .i64 ((X.take k).countP (fun d => decide (d ≤ now)) : Nat) ∧ Hid (∃ l, Rel l (LL 0 (X.take k)) ∧ At W wr p l k))
    case atStart => exact ⟨0, by omega, by omega, rfl, by simp, Lib.hid ⟨[], by simpa [LL] using Rel.nil, H.out⟩⟩
    case round =>
      obtain ⟨k, hk, hg, rfl, rfl, hH⟩ := hrel
      by_cases hlt : k < m
      · have hltz : (k : Int) < (m : Int) := by omega
        obtain ⟨b, off, rfl, hcell⟩ := HC.out (by omega)
        obtain ⟨l, hRel, hA⟩ := hH.out
        have hc := hcell k hlt wr hA.far
        have hll : l.length = k := by rw [hRel.len, LL_len, List.length_take]; have := HXL.out; omega
        have HP := Lib.hid (at_put hA (by omega) (by omega) (X.getD k 0) k _ rfl)
        have HR := Lib.hid (step_getD hRel (by have := HXL.out; omega))
        have hcnt : (X.take (k + 1)).countP (fun d => decide (d ≤ now)) = (X.take k).countP (fun d => decide (d ≤ now)) + (if X.getD k 0 ≤ now then 1 else 0) := by
          rw [take_snoc X k (by have := HXL.out; omega), List.countP_append]
          have e : X[k]'(by have := HXL.out; omega) = X.getD k 0 := by simp [List.getD, show k < X.length by have := HXL.out; omega]
          rw [e]
          simp
        have hcl : (X.take k).countP (fun d => decide (d ≤ now)) ≤ 64 := Nat.le_trans List.countP_le_length (by rw [List.length_take]; omega)
        have HCN := Lib.hid hcnt
        generalize (X.take k).countP (fun d => decide (d ≤ now)) = cn at *
        generalize hxd : X.getD k 0 = d at *
        clear hcell hRel hA hll hcnt hxd H
        by_cases hd : d ≤ now
        · go_wp2_with (go_at_call 10; (refine HP.out.mono ?_); rintro e w2 ⟨rfl, h2⟩; have H2 := Lib.hid h2; clear h2)
          go_roundg (m - (k + 1))
          case measure => omega
          case rel => exact ⟨k + 1, by omega, by omega, by go_num, by rw [HCN.out, if_pos hd]; go_num, Lib.hid ⟨_, HR.out, H2.out⟩⟩
        · go_wp2_with (go_at_call 10; (refine HP.out.mono ?_); rintro e w2 ⟨rfl, h2⟩; have H2 := Lib.hid h2; clear h2)
          go_roundg (m - (k + 1))
          case measure => omega
          case rel => exact ⟨k + 1, by omega, by omega, by go_num, by rw [HCN.out, if_neg (by omega)]; go_num, Lib.hid ⟨_, HR.out, H2.out⟩⟩
      · have hltz : ¬ (k : Int) < (m : Int) := by omega
        have : k = m := by omega
        subst this
        obtain ⟨l, hRel, hA⟩ := hH.out
        rw [List.take_of_length_le (by have := HXL.out; omega)] at hRel ⊢
        obtain ⟨cn, hcn⟩ : ∃ cn, cn = X.countP (fun d => decide (d ≤ now)) := ⟨_, rfl⟩
        have hcl : cn ≤ k := by rw [hcn, ← HXL.out]; exact List.countP_le_length
        have hO : OrdI X now k cn W wr p (.int .i64 (-1)) 0 := by
          refine ⟨l, hA, hRel.sorted, by rw [hRel.len, LL_len, HXL.out]; rfl, ?_, fun y hy => ?_, .inl ⟨-1, by omega, rfl⟩⟩
          · rw [hRel.perm.countP_eq, LL_count, hcn]; rfl
          · obtain ⟨i, hi, e⟩ := LL_one y X (hRel.perm.mem_iff.1 hy)
            exact ⟨i, by rw [← HXL.out]; exact hi, e⟩
        have HO := Lib.hid hO
        rw [← hcn]
        clear hRel hA hO hcn hH H
        go_wp2_with (fail)
        go_loopg [13, 55] cn (fun gg s13 s55 wx => ∃ j : Nat, j ≤ cn ∧ cn - j ≤ gg ∧ s55 = .int .i64 j ∧ Hid (OrdI X now k cn W wx p s13 j))
        case atStart => exact ⟨0, by omega, by omega, rfl, HO⟩
        case round =>
          obtain ⟨j, hj, hg2, rfl, hJ⟩ := hrel
          obtain ⟨r, hA, hS, hl, hcnt, hmem, hlast⟩ := hJ.out
          have HLast := Lib.hid hlast
          clear hlast
          by_cases hjl : j < cn
          · have hjz : (j : Int) < (cn : Int) := by omega
            obtain ⟨b, off, rfl, hcell⟩ := HC.out (by omega)
            have HCell := Lib.hid hcell
            obtain ⟨y, t, rfl, hyd, htc⟩ := due_head (now := now) hS (by rw [hcnt]; omega)
            obtain ⟨i, hi, rfl⟩ := hmem y (List.mem_cons_self ..)
            have HP := Lib.hid (at_due hA (by rw [hl]; omega) now (i : Int) t (tk_due_yes now _ t hyd))
            unfold Sorted at hS
            rw [List.pairwise_cons] at hS
            have HN : Hid (∀ wx, At W wx p t k → OrdI X now k cn W wx p (.int .i64 (i : Int)) (j + 1)) := Lib.hid (fun wx h => ⟨t, h, hS.2, by simp at hl; omega, by omega, fun z hz => hmem z (List.mem_cons_of_mem _ hz), .inr ⟨i, hi, rfl, fun z hz => hS.1 z hz⟩⟩)
            have hiz : (i : Int) < (k : Int) := by omega
            have hi0 : ¬ ((i : Int) < 0) := by omega
            simp only at hyd
            have hlast := HLast.out
            clear HLast
            rcases hlast with ⟨z, hz, rfl⟩ | ⟨q, hq, rfl, hqy⟩
            · have hld : ∀ wx, Far [] W wx → wx.cell? ⟨b, off + i, none⟩ = some (.int .i64 (X.getD i 0)) := fun wx h => hcell i hi wx h
              have HLD := Lib.hid hld
              generalize X.getD i 0 = xi at *
              have hyd' : ¬ (now < xi) := by omega
              have HB1 : Hid (decide ((i : Int) < 0) = false) := Lib.hid (decide_eq_false (by omega))
              have HB2 : Hid (decide (k ≤ i) = false) := Lib.hid (decide_eq_false (by omega))
              have HB3 : Hid (decide (now < xi) = false) := Lib.hid (decide_eq_false (by omega))
              have HB4 : Hid (decide ((0 : Int) ≤ z) = false) := Lib.hid (decide_eq_false (by omega))
              clear hA hS hl hcnt hmem htc hcell hJ HO hld
              go_wp2_with (go_at_call 12; (refine HP.out.mono ?_); rintro e w2 ⟨rfl, h2⟩; have y1 := HLD.out w2 h2.far; have H2 := Lib.hid h2; clear h2)
              refine wp_region_quiet_lit (by kernel_rfl) (by kernel_rfl) ?_
              iterate 5 (go_big_quiet_step (fail))
              rw [HB1.out]
              iterate 6 (go_big_quiet_step (fail))
              rw [HB2.out]
              iterate 8 (go_big_quiet_step (fail))
              rw [HB3.out]
              iterate 4 (go_big_quiet_step (fail))
              rw [HB4.out]
              repeat (go_big_quiet_step (fail))
              refine wpQuiet_nil ?_
              intro _ hw'
              obtain ⟨nq, hw''⟩ := hw'
              subst hw''
              go_wp2
              go_roundg (cn - (j + 1))
              case measure => omega
              case rel => exact ⟨j + 1, by omega, by omega, by go_num, Lib.hid (HN.out _ (H2.out.to ((Far.refl [] _).drewN _)))⟩
            · have hle2 := hqy _ (List.mem_cons_self ..)
              have hld : ∀ wx, Far [] W wx → wx.cell? ⟨b, off + i, none⟩ = some (.int .i64 (X.getD i 0)) ∧ wx.cell? ⟨b, off + q, none⟩ = some (.int .i64 (X.getD q 0)) := fun wx h => ⟨hcell i hi wx h, hcell q hq wx h⟩
              have HLD := Lib.hid hld
              simp only at hle2
              generalize X.getD i 0 = xi at *
              generalize X.getD q 0 = xq at *
              have hyd' : ¬ (now < xi) := by omega
              have hqz : (q : Int) < (k : Int) := by omega
              have hlt1 : ¬ (xi < xq) := by omega
              clear hA hS hl hcnt hmem htc hcell hJ HO hld hqy
              have hq0 : ¬ ((q : Int) < 0) := by omega
              have hq0' : (0 : Int) ≤ (q : Int) := by omega
              rcases hle2 with hlq | ⟨rfl, hqi⟩
              · have hne : ¬ (xi = xq) := by omega
                go_wp2_with (go_at_call 12; (refine HP.out.mono ?_); rintro e w2 ⟨rfl, h2⟩; obtain ⟨y1, y2⟩ := HLD.out w2 h2.far; have H2 := Lib.hid h2; clear h2)
                go_quiet (fail)
                go_wp2
                go_roundg (cn - (j + 1))
                case measure => omega
                case rel => exact ⟨j + 1, by omega, by omega, by go_num, Lib.hid (HN.out _ (H2.out.to ((Far.refl [] _).drewN _)))⟩
              · have hnle : ¬ ((i : Int) ≤ (q : Int)) := by omega
                go_wp2_with (go_at_call 12; (refine HP.out.mono ?_); rintro e w2 ⟨rfl, h2⟩; obtain ⟨y1, y2⟩ := HLD.out w2 h2.far; have H2 := Lib.hid h2; clear h2)
                go_quiet (fail)
                go_wp2
                go_roundg (cn - (j + 1))
                case measure => omega
                case rel => exact ⟨j + 1, by omega, by omega, by go_num, Lib.hid (HN.out _ (H2.out.to ((Far.refl [] _).drewN _)))⟩
          · have hjz : ¬ (j : Int) < (cn : Int) := by omega
            have hjc : j = cn := by omega
            subst hjc
            have HP := Lib.hid (at_undue hA (by rw [hl]; omega) now (due_none (by rw [hcnt]; omega)))
            have hlz : ((k - j : Nat) : Int) = (k : Int) - (j : Int) := by omega
            clear hS hcnt hmem HLast HO hJ HC hA
            go_wp2_with (first
              | (go_at_call 12; (refine HP.out.mono ?_); rintro e w2 ⟨rfl, h2⟩; have H2 := Lib.hid h2; clear h2)
              | (go_at_call 18; (refine (at_len H2.out).mono ?_); rintro e w3 ⟨rfl, rfl⟩))
            go_ret
            exact ⟨rfl, H2.out.far.below_nil⟩
end TW
end Go.Proofs.Ytcodmpibhlojaaa
