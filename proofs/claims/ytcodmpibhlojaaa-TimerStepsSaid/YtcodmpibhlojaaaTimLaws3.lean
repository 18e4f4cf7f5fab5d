/-
  TimerSteps: time that goes on step by step tells what it tells at once. No condition.
-/
import Derived.Test.YtcodmpibhlojaaaTimSt
import Derived.Test.YtcodmpibhlojaaaTimCut
import Derived.Deep.Cut
import Derived.Deep.DeepCutAuto
namespace Go.Proofs.Ytcodmpibhlojaaa
open Go.RowKit Go.Lib
namespace TW
open TM TR MM TL
theorem u8b {x : Int} (h : (Lit.int .u8 x).wf = true) : 0 ≤ x ∧ x ≤ 255 := by
  simp [Lit.wf, IntKind.min, IntKind.max, IntKind.signed, IntKind.bits] at h
  omega
theorem ints_info : (Try.prog.info? 3).map (fun i => (i.zero, i.size, i.bytes)) = some (some (.int .i64 0), 1, 8) := by kernel_rfl
theorem ints_slice : Try.prog.underlying 40 = some (.slice 3) := by kernel_rfl
theorem nums_one (l : List Int) : ∀ u ∈ nums l, u.oneCell' = true := by
  intro u hu
  obtain ⟨x, _, rfl⟩ := List.mem_map.1 hu
  rfl
theorem st_cell {W w : World} {p q c d : Nat} {l r : List Ti} {tv : Value} {told : List Int} (h : St3 W w p l c q r d tv told) (k : Nat) (hk : k < told.length) :
    ∃ b cap, tv = .slice (some ⟨b, 0, none⟩) told.length cap ∧ w.cell? ⟨b, k, none⟩ = some (.int .i64 (told.getD k 0)) := by
  obtain ⟨S, v, T, u, _, _, h3, _⟩ := h
  obtain ⟨A, cap, hv, _, _, _, hsrc, hA⟩ := MO.form h3
  obtain ⟨ad, e, _, _, hc⟩ := hsrc [] (by simp) (by simp [nums]; omega)
  rcases hA with ⟨_, h0, _⟩ | ⟨g, hg, _⟩
  · omega
  · rw [hg] at e hv
    injection e with e
    subst e
    refine ⟨g, cap, hv, ?_⟩
    have := hc k (.int .i64 (told.getD k 0)) (by unfold nums; rw [List.getElem?_map, List.getElem?_eq_getElem hk]; simp [List.getD, hk])
    rwa [head_add] at this
/-- what is told, and what is left. -/
structure Dn (l0 dn r : List Ti) (now : Int) : Prop where
  all : l0 = dn ++ r
  due : ∀ y ∈ dn, y.d ≤ now
theorem Dn.later {l0 dn r : List Ti} {now n2 : Int} (h : Dn l0 dn r now) (hn : now ≤ n2) : Dn l0 dn r n2 := ⟨h.all, fun y hy => Int.le_trans (h.due y hy) hn⟩
theorem Dn.step {l0 dn t : List Ti} {x : Ti} {now : Int} (h : Dn l0 dn (x :: t) now) (hx : x.d ≤ now) : Dn l0 (dn ++ [x]) t now :=
  ⟨by rw [h.all]; simp, fun y hy => by
    rcases List.mem_append.1 hy with hy | hy
    · exact h.due y hy
    · rw [List.mem_singleton.1 hy]; exact hx⟩
theorem Dn.sorted {l0 dn r : List Ti} {now : Int} (h : Dn l0 dn r now) (hs : Sorted l0) : Sorted r := by
  unfold Sorted at hs
  rw [h.all, List.pairwise_append] at hs
  exact hs.2.1
theorem st_own {W w : World} {p q c d : Nat} {l r : List Ti} {tv : Value} {told : List Int} (h : St3 W w p l c q r d tv told) : w.ownsRow W.heap.size 3 1 tv told.length (nums told) := by
  obtain ⟨S, v, T, u, _, _, h3, _⟩ := h
  exact h3
theorem st_form {W w : World} {p q c d : Nat} {l r : List Ti} {tv : Value} {told : List Int} (h : St3 W w p l c q r d tv told) : ∃ A k, tv = .slice A told.length k := by
  obtain ⟨A, k, hv, _⟩ := MO.form (st_own h)
  exact ⟨A, k, hv⟩
def its (l : List Ti) : List Int := l.map (·.it)
/-- what Steps' loops carry. -/
def StI (W wr : World) (p q m : Nat) (l0 : List Ti) (tv : Value) (now : Int) (dn r : List Ti) : Prop := St3 W wr p r m q l0 m tv (its dn) ∧ Dn l0 dn r now
set_option maxHeartbeats 4000000 in
set_option maxRecDepth 20000 in
theorem steps_law (a0 : Option Addr) (len0 cap0 : Nat) (z0 : List Int) (a1 : Option Addr) (len1 cap1 : Nat) (z1 : List Int) (W : World) (w0 : MR.Ints .u8 W a0 len0 cap0 z0) (w1 : MR.Ints .u8 W a1 len1 cap1 z1) :
    Calls Try.prog 7 #[.slice a0 len0 cap0, .slice a1 len1 cap1] W fun e w' => e = .returned (.bool true) ∧ Below W.heap.size W w' := by
  have hle0 := w0.le
  have hmx0 := w0.max
  have hnil0 := w0.nil
  have hzl0 := w0.len_
  have hle1 := w1.le
  have hmx1 := w1.max
  have hnil1 := w1.nil
  have hzl1 := w1.len_
  unfold maxLen at hmx0 hmx1
  obtain ⟨m, hm⟩ : ∃ m, m = min len0 64 := ⟨_, rfl⟩
  obtain ⟨m2, hm2⟩ : ∃ m2, m2 = min len1 30 := ⟨_, rfl⟩
  have hma : m ≤ len0 := by omega
  have hmb : m ≤ 64 := by omega
  have hmc : m2 ≤ len1 := by omega
  have hmd : m2 ≤ 30 := by omega
  have HM := Lib.hid hm
  have HM2 := Lib.hid hm2
  have hHC : 0 < m → ∃ b off, a0 = some ⟨b, off, none⟩ ∧ ∀ i, i < m → ∀ wr, Far [] W wr → wr.cell? ⟨b, off + i, none⟩ = some (.int .u8 ((z0.take m).getD i 0)) := fun h => cut_cells w0 m hma h
  have hHD : 0 < m2 → ∃ b off, a1 = some ⟨b, off, none⟩ ∧ ∀ i, i < m2 → ∀ wr, Far [] W wr → wr.cell? ⟨b, off + i, none⟩ = some (.int .u8 ((z1.take m2).getD i 0)) := fun h => cut_cells w1 m2 hmc h
  obtain ⟨X, hX⟩ : ∃ X, X = z0.take m := ⟨_, rfl⟩
  obtain ⟨Y, hY⟩ : ∃ Y, Y = z1.take m2 := ⟨_, rfl⟩
  have hXl : X.length = m := by rw [hX, List.length_take]; omega
  have hYl : Y.length = m2 := by rw [hY, List.length_take]; omega
  have hXu : ∀ i, 0 ≤ X.getD i 0 ∧ X.getD i 0 ≤ 255 := fun i => by
    by_cases hi : i < X.length
    · have e : X.getD i 0 = X[i] := by simp [List.getD, hi]
      rw [e]
      have : X[i] ∈ X := List.getElem_mem hi
      exact u8b (w0.wf _ ((show ∀ y, y ∈ X → y ∈ z0 from fun y hy => List.mem_of_mem_take (i := m) (by rw [hX] at hy; exact hy)) _ this))
    · simp [List.getD, hi]
  have hYu : ∀ i, 0 ≤ Y.getD i 0 ∧ Y.getD i 0 ≤ 255 := fun i => by
    by_cases hi : i < Y.length
    · have e : Y.getD i 0 = Y[i] := by simp [List.getD, hi]
      rw [e]
      have : Y[i] ∈ Y := List.getElem_mem hi
      exact u8b (w1.wf _ ((show ∀ y, y ∈ Y → y ∈ z1 from fun y hy => List.mem_of_mem_take (i := m2) (by rw [hY] at hy; exact hy)) _ this))
    · simp [List.getD, hi]
  rw [← hX] at hHC
  rw [← hY] at hHD
  have HC := Lib.hid hHC
  have HD := Lib.hid hHD
  have HXL := Lib.hid hXl
  have HXU := Lib.hid hXu
  have HYU := Lib.hid hYu
  have H0 := Lib.hid hnil0
  have H1 := Lib.hid hnil1
  clear w0 w1 hm hm2 hHC hHD hX hY hzl0 hzl1 hXl hYl hXu hYu hnil0 hnil1
  go_enter Try.func7, Try.ntmps7
  go_upto_region 5 with (first
    | (go_at_call 8; refine (shown_any W).mono ?_; rintro e wa ⟨rfl, h1⟩; have HS := Lib.hid h1; clear h1)
    | (go_at_call 9; refine (new_any _).mono ?_; first
        | (rintro e wc ⟨q, rfl, hq, h2, hF2⟩; have HQ := Lib.hid (st_two (W := W) wa HS.out wb wc p q HP.out.1 hq HP.out.2.1 h2 HP.out.2.2 hF2); clear hq h2 hF2 HP)
        | (rintro e wb ⟨p, rfl, hp, h1, hF1⟩; have HP := Lib.hid (And.intro hp (And.intro h1 hF1)); clear hp h1 hF1)))
  go_cut [35, 36, 37] (fun s35 s36 s37 wx => s35 = .slice a0 m cap0 ∧ s36 = .int .i64 m ∧ s37 = .int .i64 0 ∧ wx = wc)
  case first =>
    have hm := HM.out
    have hnil := H0.out
    cases a0 with
    | none =>
      obtain rfl : cap0 = 0 := hnil rfl
      obtain rfl : len0 = 0 := by omega
      obtain rfl : m = 0 := by omega
      clear hm
      go_wp2
      go_meet
      exact ⟨rfl, rfl, rfl, rfl⟩
    | some ad =>
      by_cases h26 : len0 ≤ 64
      · obtain rfl : m = len0 := by omega
        clear hm
        go_wp2
        go_meet
        first | exact ⟨rfl, rfl, rfl, rfl⟩ | (rw [show (min (m : Int) 64).toNat = m from by omega]; exact ⟨rfl, by rw [show max (min (m : Int) 64) 0 = (m : Int) from by omega], rfl, rfl⟩)
      · obtain rfl : m = 64 := by omega
        clear hm
        go_wp2
        go_meet
        first | exact ⟨rfl, rfl, rfl, rfl⟩ | (rw [show (min (len0 : Int) 64).toNat = 64 from by omega]; exact ⟨rfl, by rw [show max (min (len0 : Int) 64) 0 = ((64 : Nat) : Int) from by omega], rfl, rfl⟩)
  case rest =>
    obtain ⟨rfl, rfl, rfl, hwc⟩ := hcut
    subst hwc
    clear HM HS
    go_wp2_with (fail)
    go_loopg [37] m (fun gg s37 wr => ∃ k : Nat, k ≤ m ∧ m - k ≤ gg ∧ s37 = .int .i64 k ∧ Hid (∃ l, Rel l (LL 0 (X.take k)) ∧ St3 W wr p l k q l k (.slice none 0 0) []))
    case atStart => exact ⟨0, by omega, by omega, rfl, Lib.hid ⟨[], by simpa [LL] using Rel.nil, HQ.out⟩⟩
    case round =>
      obtain ⟨k, hk, hg, rfl, hH⟩ := hrel
      by_cases hlt : k < m
      · have hltz : (k : Int) < (m : Int) := by omega
        obtain ⟨b, off, rfl, hcell⟩ := HC.out (by omega)
        obtain ⟨l, hRel, hA⟩ := hH.out
        have hc := hcell k hlt wr hA.far
        have hll : l.length = k := by rw [hRel.len, LL_len, List.length_take]; have := HXL.out; omega
        have HP1 := Lib.hid (st_put hA (by omega) (by omega) (X.getD k 0) k)
        have HR := Lib.hid (step_getD hRel (by have := HXL.out; omega))
        have hxu := HXU.out k
        have hxw : IntKind.i64.wrap (X.getD k 0) = X.getD k 0 := by rw [IntKind.wrap_i64]; omega
        have hl64 : l.length < 64 := by omega
        generalize hxd : X.getD k 0 = d at *
        clear hcell hRel hA hll hxd hH HQ
        go_wp2_with (go_at_call 10; first
          | ((with_reducible refine HP2.out.mono ?_); rintro e w3 ⟨rfl, h3⟩; have H3 := Lib.hid h3.swap; clear h3)
          | ((with_reducible refine HP1.out.mono ?_); rintro e w2 ⟨rfl, h2⟩; have HP2 := Lib.hid (st_put h2.swap hl64 (by omega) d k); clear h2))
        go_roundg (m - (k + 1))
        case measure => omega
        case rel => exact ⟨k + 1, by omega, by omega, by go_num, Lib.hid ⟨_, HR.out, H3.out⟩⟩
      · have hltz : ¬ (k : Int) < (m : Int) := by omega
        have : k = m := by omega
        subst this
        obtain ⟨l0, hRel, hA⟩ := hH.out
        rw [List.take_of_length_le (by have := HXL.out; omega)] at hRel
        have hl0 : l0.length = k := by rw [hRel.len, LL_len]; exact HXL.out
        have hS0 := Lib.hid hRel.sorted
        have HI : Hid (StI W wr p q k l0 (.slice none 0 0) 0 [] l0) := Lib.hid ⟨hA, rfl, fun y hy => by cases hy⟩
        clear hRel hA hH HQ HC
        go_upto_region 13 with (fail)
        go_cut [57, 58, 59] (fun s57 s58 s59 wx => s57 = .slice a1 m2 cap1 ∧ s58 = .int .i64 m2 ∧ s59 = .int .i64 0 ∧ wx = wr)
        case first =>
          have hm := HM2.out
          have hnil := H1.out
          cases a1 with
          | none =>
            obtain rfl : cap1 = 0 := hnil rfl
            obtain rfl : len1 = 0 := by omega
            obtain rfl : m2 = 0 := by omega
            clear hm
            go_wp2
            go_meet
            exact ⟨rfl, rfl, rfl, rfl⟩
          | some ad =>
            by_cases h26 : len1 ≤ 30
            · obtain rfl : m2 = len1 := by omega
              clear hm
              go_wp2
              go_meet
              first | exact ⟨rfl, rfl, rfl, rfl⟩ | (rw [show (min (m2 : Int) 30).toNat = m2 from by omega]; exact ⟨rfl, by rw [show max (min (m2 : Int) 30) 0 = (m2 : Int) from by omega], rfl, rfl⟩)
            · obtain rfl : m2 = 30 := by omega
              clear hm
              go_wp2
              go_meet
              first | exact ⟨rfl, rfl, rfl, rfl⟩ | (rw [show (min (len1 : Int) 30).toNat = 30 from by omega]; exact ⟨rfl, by rw [show max (min (len1 : Int) 30) 0 = ((30 : Nat) : Int) from by omega], rfl, rfl⟩)
        case rest =>
          obtain ⟨rfl, rfl, rfl, hwc⟩ := hcut
          subst hwc
          go_wp2_with (fail)
          go_loopg [10, 11, 59] m2 (fun gg s10 s11 s59 wx => ∃ j : Nat, ∃ now : Int, j ≤ m2 ∧ m2 - j ≤ gg ∧ 0 ≤ now ∧ now ≤ 255 * j ∧ s10 = .int .i64 now ∧ s59 = .int .i64 j ∧ Hid (∃ dn r, StI W wx p q k l0 s11 now dn r ∧ (0 < j → r.countP (dueB now) = 0)))
          case atStart => exact ⟨0, 0, by omega, by omega, by omega, by omega, rfl, rfl, Lib.hid ⟨[], l0, HI.out, fun h => absurd h (by omega)⟩⟩
          case round =>
            obtain ⟨j, now, hj, hg2, hn0, hn1, rfl, rfl, hJ⟩ := hrel
            obtain ⟨dn0, r0, ⟨hA0, hD0⟩, hz0⟩ := hJ.out
            by_cases hjl : j < m2
            · have hjz : (j : Int) < (m2 : Int) := by omega
              obtain ⟨b, off, rfl, hcell⟩ := HD.out (by omega)
              have hc := hcell j hjl wr hA0.far
              have hyu := HYU.out j
              obtain ⟨n2, hn2⟩ : ∃ n2, n2 = now + Y.getD j 0 := ⟨_, rfl⟩
              have hyw : IntKind.i64.wrap (Y.getD j 0) = Y.getD j 0 := by rw [IntKind.wrap_i64]; omega
              have hnw : IntKind.i64.wrap (now + Y.getD j 0) = n2 := by rw [IntKind.wrap_i64]; omega
              have hn2a : 0 ≤ n2 := by omega
              have hn2b : n2 ≤ 255 * (j + 1) := by omega
              have hr0 : dn0.length + r0.length = k := by rw [← hl0, hD0.all, List.length_append]
              have HI2 : Hid (StI W wr p q k l0 u11 n2 dn0 r0) := Lib.hid ⟨hA0, hD0.later (by omega)⟩
              generalize Y.getD j 0 = sp at *
              clear hcell hA0 hD0 hz0 hJ hn2
              go_upto_region 17 with (fail)
              go_wp2_with (fail)
              go_loopg [11, 67] 65 (fun gg t11 s67 wy => ∃ i : Nat, i ≤ 65 ∧ 65 - i ≤ gg ∧ s67 = .int .i64 i ∧ Hid (∃ dn r, StI W wy p q k l0 t11 n2 dn r ∧ r.length + i ≤ 64))
              case atStart => exact ⟨0, by omega, by omega, rfl, Lib.hid ⟨dn0, r0, HI2.out, by omega⟩⟩
              case round =>
                obtain ⟨i, hi, hg3, rfl, hI⟩ := hrel
                obtain ⟨dn, r, ⟨hA, hD⟩, hri⟩ := hI.out
                have hiz : (i : Int) < 65 := by omega
                by_cases hz : r.countP (dueB n2) = 0
                · have HP := Lib.hid (st_undue hA (by omega) n2 (due_none hz))
                  have HDn := Lib.hid hD
                  have hzh := Lib.hid hz
                  clear hA hD hz hI HI2
                  go_wp2_with (go_at_call 12; (refine HP.out.mono ?_); rintro e w2 ⟨rfl, h2⟩; have H2 := Lib.hid h2; clear h2)
                  go_roundg (m2 - (j + 1))
                  case measure => omega
                  case rel => exact ⟨j + 1, n2, by omega, by omega, hn2a, by omega, rfl, by go_num, Lib.hid ⟨dn, r, ⟨H2.out, HDn.out⟩, fun _ => hzh.out⟩⟩
                · obtain ⟨y, t, rfl, hyd, _⟩ := due_head (now := n2) (hD.sorted hS0.out) (by omega)
                  have HP := Lib.hid (st_due hA (by omega) n2 y.it t (tk_due_yes n2 y t hyd))
                  have HDn := Lib.hid (hD.step hyd)
                  have hdl : dn.length ≤ 64 := by
                    have := congrArg List.length hD.all
                    rw [List.length_append] at this
                    omega
                  have hits : (its dn).length = dn.length := by simp [its]
                  have htl : t.length + (i + 1) ≤ 64 := by simp at hri; omega
                  have hbase := hA.far.size
                  clear hA hD hz hI HI2 hyd hri
                  go_wp2_with (first
                    | (go_at_call 12; (refine HP.out.mono ?_); rintro e w2 ⟨rfl, h2⟩; have H2 := Lib.hid h2; have HO := Lib.hid (st_own (h2.to ((Far.refl [] w2).alloc (.cells #[.int .i64 y.it] 3)))); clear h2)
                    | (at_builtin; refine MO.wpList_append _ rfl _ _ 40 rfl W.heap.size 3 _ 1 8 ints_slice ints_info rfl (by omega) u11 _ (nums (its dn)) rfl HO.out (some ⟨w2.heap.size, 0, none⟩) 1 1 [.int .i64 y.it] rfl rfl (fun h => by cases h) [] (Src.row (Row.new w2 3 [.int .i64 y.it]) (by simp) _ (fun j u hu => hu)) (nums_one [y.it]) (by simp only [maxLen]; omega) (by omega) (by have := H2.out.far.size; simp; omega) ?_; intro v3 w3 hv3 hg3' hat3; have H3 := Lib.hid (st_told H2.out y.it v3 hv3 hg3' hat3); clear hv3 hg3' hat3))
                  go_roundg (65 - (i + 1))
                  case measure => omega
                  case rel =>
                    have e : its dn ++ [y.it] = its (dn ++ [y]) := by simp [its]
                    have h3 := H3.out
                    rw [e] at h3
                    exact ⟨i + 1, by omega, by omega, by go_num, Lib.hid ⟨dn ++ [y], t, ⟨h3, HDn.out⟩, htl⟩⟩
            · have hjz : ¬ (j : Int) < (m2 : Int) := by omega
              have hjm : j = m2 := by omega
              subst hjm
              have hr0 : dn0.length + r0.length = k := by rw [← hl0, hD0.all, List.length_append]
              obtain ⟨A, cp, rfl⟩ := st_form hA0
              have hits : (its dn0).length = dn0.length := by simp [its]
              obtain ⟨n, hn⟩ : ∃ n, n = dn0.length := ⟨_, rfl⟩
              rw [hits, ← hn] at hA0
              rw [hits, ← hn]
              have HI0 : Hid (St3 W wr p r0 k q (dn0.drop 0 ++ r0) k (.slice A n cp) (its dn0)) := Lib.hid (by rw [List.drop_zero, ← hD0.all]; exact hA0)
              have HDd := Lib.hid hD0.due
              have hSr := Lib.hid (hD0.sorted hS0.out)
              have HZ := Lib.hid hz0
              have HN := Lib.hid hn
              have hn64 : n ≤ 64 := by omega
              clear hA0 hD0 hz0 hJ hn hits
              go_wp2_with (fail)
              go_loopg [85] n (fun gg s85 wy => ∃ i : Nat, i ≤ n ∧ n - i ≤ gg ∧ s85 = .int .i64 i ∧ Hid (St3 W wy p r0 k q (dn0.drop i ++ r0) k (.slice A n cp) (its dn0)))
              case atStart => exact ⟨0, by omega, by omega, rfl, HI0⟩
              case round =>
                obtain ⟨i, hi, hg3, rfl, hI⟩ := hrel
                by_cases hin : i < n
                · have hiz : (i : Int) < (n : Int) := by omega
                  have hid : i < dn0.length := by have := HN.out; omega
                  obtain ⟨b, cap, hv, hc⟩ := st_cell hI.out i (by simp [its]; exact hid)
                  have hv2 : A = some ⟨b, 0, none⟩ := by injection hv
                  subst hv2
                  have ei : (its dn0).getD i 0 = dn0[i].it := by simp [its, List.getD, hid]
                  rw [ei] at hc
                  have HP := Lib.hid (st_due hI.out.swap (by rw [List.length_append, List.length_drop]; omega) now dn0[i].it (dn0.drop (i + 1) ++ r0) (by rw [List.drop_eq_getElem_cons hid, List.cons_append]; exact tk_due_yes now _ _ (HDd.out _ (List.getElem_mem hid))))
                  generalize dn0[i].it = it at *
                  clear hI hv HI0 ei
                  go_wp2_with (go_at_call 12; (refine HP.out.mono ?_); rintro e w2 ⟨rfl, h2⟩; have H2 := Lib.hid h2.swap; clear h2)
                  go_roundg (n - (i + 1))
                  case measure => omega
                  case rel => exact ⟨i + 1, by omega, by omega, by go_num, H2.out⟩
                · have hiz : ¬ (i : Int) < (n : Int) := by omega
                  have hA := hI.out
                  rw [List.drop_eq_nil_of_le (by have := HN.out; omega), List.nil_append] at hA
                  have hr64 : r0.length ≤ 64 := by omega
                  by_cases hz : r0.countP (dueB now) = 0
                  · have HP := Lib.hid (st_undue hA.swap hr64 now (due_none hz))
                    clear hA hI HI0
                    by_cases hl1 : len1 = 0
                    · subst hl1
                      go_wp2_with (first
                        | (go_at_call 12; (refine HP.out.mono ?_); rintro e w2 ⟨rfl, h2⟩; have H2 := Lib.hid h2; clear h2)
                        | (go_at_call 18; first | (with_reducible refine (st_len H2.out.swap).mono ?_; rintro e w3 ⟨rfl, rfl⟩) | (with_reducible refine (st_len H2.out).mono ?_; rintro e w3 ⟨rfl, rfl⟩)))
                      go_ret
                      exact ⟨rfl, H2.out.far.below_nil⟩
                    · have hl2 : ¬ ((len1 : Int) = 0) := by omega
                      go_wp2_with (first
                        | (go_at_call 12; (refine HP.out.mono ?_); rintro e w2 ⟨rfl, h2⟩; have H2 := Lib.hid h2; clear h2)
                        | (go_at_call 18; first | (with_reducible refine (st_len H2.out.swap).mono ?_; rintro e w3 ⟨rfl, rfl⟩) | (with_reducible refine (st_len H2.out).mono ?_; rintro e w3 ⟨rfl, rfl⟩)))
                      go_ret
                      exact ⟨rfl, H2.out.far.below_nil⟩
                  · have hj0 : j = 0 := by
                      rcases Nat.eq_zero_or_pos j with h | h
                      · exact h
                      · exact absurd (HZ.out h) hz
                    have hl1 : len1 = 0 := by have := HM2.out; omega
                    subst hl1
                    obtain ⟨y, t, rfl, hyd, _⟩ := due_head (now := now) (r := r0) (by
                      exact hSr.out) (by omega)
                    have HP := Lib.hid (st_due hA.swap hr64 now y.it t (tk_due_yes now y t hyd))
                    clear hA hI HI0
                    go_wp2_with (first
                      | (go_at_call 12; (refine HP.out.mono ?_); rintro e w2 ⟨rfl, h2⟩; have H2 := Lib.hid h2; clear h2)
                      | (go_at_call 18; first | (with_reducible refine (st_len H2.out.swap).mono ?_; rintro e w3 ⟨rfl, rfl⟩) | (with_reducible refine (st_len H2.out).mono ?_; rintro e w3 ⟨rfl, rfl⟩)))
                    go_ret
                    exact ⟨rfl, H2.out.far.below_nil⟩
end TW
end Go.Proofs.Ytcodmpibhlojaaa
