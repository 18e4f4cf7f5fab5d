/-
  The walk of MoveNone: without anything to begin at nothing is kept, words that are no places stay, of no arena nothing is told. Condition: the arguments' readings.
-/
import Derived.Test.YtokpiljbcbemlaaMoveLaws1
import Derived.Deep.RegionHeld3
namespace Go.Proofs.Ytokpiljbcbemlaa
open Go.RowKit
namespace ML
open AW MW AL
theorem live_none (ts : List AP.Th) : MP.liveT ts [] = [] ∧ MP.liveW ts [] = [] := by
  refine ⟨?_, rfl⟩
  show (MP.goF ts (ts.length + 1) 0 ⟨[], []⟩).us = []
  rw [MP.goF_stop _ _ _ _ (by simp)]
theorem live_bare {ts : List AP.Th} {x : Int} (h : AW.look ts x = none) : MP.liveT ts [x, x] = [] ∧ MP.liveW ts [x, x] = [MP.bareW x, MP.bareW x] := by
  obtain ⟨e1, e2⟩ := MP.cw_none ⟨[], []⟩ h
  refine ⟨?_, ?_⟩
  · show (MP.goF ts (ts.length + 1) 0 (MP.cwS ts (MP.cwS ts ⟨[], []⟩ x) x)).us = []
    rw [e1, e1, MP.goF_stop _ _ _ _ (by simp)]
  · show [MP.cwW ts ⟨[], []⟩ x, MP.cwW ts (MP.cwS ts ⟨[], []⟩ x) x] = _
    rw [e1, e2]
theorem live_two {n : Nat} {ts : List AP.Th} (hO : Ok n ts) (x : Int) : ∃ y, MP.liveW ts [x, x] = [y, y] := ⟨_, (MP.live hO [x, x]).words⟩
theorem two_row (w : World) (x : Int) : MM.Src (w.alloc (.cells #[.int .u64 x, .int .u64 x] 42)) [] (some ⟨w.heap.size, 0, none⟩) (U64s [x, x]) :=
  MM.Src.row (MM.Row.new w 42 [.int .u64 x, .int .u64 x]) (by simp) _ (fun _ _ hu => hu)
theorem bne_pos {k : Int} (h : 1 ≤ k) : 0 < k := by omega
set_option maxRecDepth 100000 in
set_option maxHeartbeats 4000000 in
theorem none_kept (w : World) (size : Int) (a : Option Addr) (len cap : Nat) (tl : List Tg) (a2 : Option Addr) (len2 cap2 : Nat) (roots : List Int) (x : Int) (hz : Hp w size a len cap tl a2 len2 cap2 roots) (hx : (Lit.int .u64 x).wf = true) :
    Calls Try.prog 6 #[.agg #[.int .i64 size, .slice a len cap, .slice a2 len2 cap2], .int .u64 x] w fun e w' => e = .returned (.bool true) ∧ Below w.heap.size w w' := by
  have HXu := Lib.hid (u_of hx)
  have HZ := Lib.hid hz
  clear hz hx
  go_enter Try.func6, Try.ntmps6
  go_wp2_with (fail)
  have hX := MM.Row.new w 25 [.int .i64 size, .slice a len cap, .slice a2 len2 cap2]
  have hF := (MM.Far.refl [] w).alloc (.cells #[.int .i64 size, .slice a len cap, .slice a2 len2 cap2] 25)
  refine (MW.shown_any _).mono ?_
  rintro e w0 ⟨rfl, hF0⟩
  have hX0 := hX.far hF0 (by simp)
  have hF0w := hF.trans hF0 (by simp)
  have x0 := hX0.at (i := 0) rfl
  have x1 := hX0.at (i := 1) rfl
  have x2 := hX0.at (i := 2) rfl
  clear hX hF hF0
  go_wp2_with (fail)
  refine (build_any w0 size a len cap tl a2 len2 cap2 roots (HZ.out.far hF0w) _ rfl).mono ?_
  rintro e w1 ⟨base, p, g, h, q, n, ts, v, hs, rfl, hn1, hT⟩
  clear x0 x1 x2 hX0
  have hF1w := hF0w.trans hT.far (by simp)
  generalize min len2 20 = m
  have hA := hT.ar
  clear hT hF0w
  have HX1 := Lib.hid (show ∀ y ∈ [x, x], WP.U y by intro y hy; simp at hy; subst hy; exact HXu.out)
  have HX2 := Lib.hid (show ∀ y ∈ [x], WP.U y by intro y hy; simp at hy; subst hy; exact HXu.out)
  go_wp2_with (fail)
  refine (live_to hA hn1 [] none 0 0 [] [] (live_none ts).1 (live_none ts).2 rfl (by omega) (src_none rfl) (by simp)).mono ?_
  rintro e w2 ⟨pb, gb, hb, wb, rfl, _, hAb, _, hF2⟩
  have hF2' : MM.Far [] w1 (w2.alloc (.cells #[.int .u64 x, .int .u64 x] 42)) := hF2.alloc _
  have hA2 := hA.far hF2' (by simp) (by simp) (by simp)
  have hAb2 := hAb.far ((MM.Far.refl [] w2).alloc (.cells #[.int .u64 x, .int .u64 x] 42)) (by simp) (by simp) (by simp)
  go_wp2_with (fail)
  obtain ⟨T, hT⟩ : ∃ T, MP.liveT ts [x, x] = T := ⟨_, rfl⟩
  obtain ⟨y, hy⟩ := live_two hA.ok x
  refine (live_to hA2 hn1 [x, x] _ 2 2 T [y, y] hT hy rfl (by omega) (two_row w2 x) HX1.out).mono ?_
  rintro e w3 ⟨pc, gc, hc, wm, rfl, _, hAc, hRm, hF3⟩
  have hF13 := hF2'.trans hF3 (by simp)
  have hAb3 := hAb2.far hF3 (by simp) (by simp) (by simp)
  go_wp2_with (fail)
  refine (live_nil [x] _ 1 1 rfl (by omega) (by omega) (one_row w3 x [] (by simp))).mono ?_
  rintro e w4 ⟨wn, rfl, _, hRn, hF4⟩
  have hF34 := ((MM.Far.refl [] w3).alloc (.cells #[.int .u64 x] 42)).trans hF4 (by simp)
  have hF14 := hF13.trans hF34 (by simp)
  have hRm4 := hRm.far hF34 (by simp)
  have m0 := row_word hRm4 (k := 0) (by simp)
  have m1 := row_word hRm4 (k := 1) (by simp)
  simp at m0 m1
  have HFm := Lib.hid (fun (w5 : World) (hF : MM.Far [] w4 w5) => hRm4.far hF (by simp))
  have HA4 := Lib.hid (fun (w5 : World) (hF : MM.Far [] w4 w5) => (hA.far hF14 (by simp) (by simp) (by simp)).far hF (by simp) (by simp) (by simp))
  have HAb4 := Lib.hid (fun (w5 : World) (hF : MM.Far [] w4 w5) => (hAb3.far hF34 (by simp) (by simp) (by simp)).far hF (by simp) (by simp) (by simp))
  have HAc4 := Lib.hid (fun (w5 : World) (hF : MM.Far [] w4 w5) => (hAc.far hF34 (by simp) (by simp) (by simp)).far hF (by simp) (by simp) (by simp))
  have HF1w := Lib.hid (hF1w.trans hF14 (by simp))
  have HRn := Lib.hid hRn
  have hd4 := Lib.hid (MM.Far.refl [] w4).drew
  have HUb := Lib.hid (used_is (HAb4.out w4.drew hd4.out) 0 rfl)
  have HKx := Lib.hid (kind_any (HA4.out w4.drew hd4.out) x HXu.out)
  have HBx := Lib.hid (bare_any x HXu.out w4.drew)
  have HUc := Lib.hid (used_any (HAc4.out w4.drew hd4.out))
  have hd5 := Lib.hid (((MM.Far.refl [] w4).alloc (.cells #[.int .u64 x] 42)).drew)
  have HWd := Lib.hid (words_eq ((w4.alloc (.cells #[.int .u64 x] 42)).drew) [x] 1 (some ⟨wn, 0, none⟩) (some ⟨w4.heap.size, 0, none⟩) 1 1 rfl (by omega) (src_row (HRn.out.far hd5.out (by simp)))
    ((one_row w4 x [] (by simp)).far ((MM.Far.refl [] _).drew) (by simp)))
  have HRe := Lib.hid (fun (w5 : World) (hF : MM.Far [] w4 w5) => reach_is (HA4.out w5 hF) hn1 [] none 0 0 0 (by unfold MP.reach; rw [(live_none ts).1]; rfl) rfl (by omega) (src_none rfl) (by simp))
  have HRx := Lib.hid (fun (w5 : World) => reach_nil (w := w5.alloc (.cells #[.int .u64 x] 42)) [x] _ 1 1 rfl (by omega) (by omega) (one_row w5 x [] (by simp)))
  have HAok := Lib.hid hA.ok
  have HTt := Lib.hid hT
  have HYy := Lib.hid hy
  clear hA2 hA hAb2 hAb hAb3 hAc hRm hRm4 hF2 hF2' hF3 hF13 hF34 hF14 hF4 hRn hF1w hT hy
  cases hl : AW.look ts x with
  | none =>
    have e1 : kindN ts x = 0 := by simp [kindN, hl]
    rw [e1] at HKx
    have e2 : T = [] := by rw [← HTt.out]; exact (live_bare hl).1
    subst e2
    have e3 : y = MP.bareW x := by
      have := HYy.out
      rw [(live_bare hl).2] at this
      simp at this; exact this.symm
    subst e3
    rw [show AP.sz [] = 0 from rfl] at HUc
    generalize MP.bareW x = y at m0 m1 HBx HFm
    clear hl e1
    go_wp2_with (fail)
    go_region_held3 (fun w' => w'.cell? ⟨wm, 0, none⟩ = some (.int .u64 y) ∧ w'.cell? ⟨wm, 1, none⟩ = some (.int .u64 y)) (go_keep) (first
      | (go_at_call 23; (with_reducible refine HUb.out.mono ?_); rintro e w' ⟨rfl, rfl⟩)
      | (go_at_call 23; (with_reducible refine HUc.out.mono ?_); rintro e w' ⟨rfl, rfl⟩)
      | (go_at_call 19; (with_reducible refine HKx.out.mono ?_); rintro e w' ⟨rfl, rfl⟩)
      | (go_at_call 20; (with_reducible refine HBx.out.mono ?_); rintro e w' ⟨rfl, rfl⟩)
      | (go_at_call 15; (with_reducible refine HWd.out.mono ?_); rintro e w5 ⟨rfl, hF5⟩
         have HF5 := Lib.hid (hd5.out.trans hF5 (by simp))
         have z0 := row_word (HFm.out w5 HF5.out) (k := 0) (by simp)
         have z1 := row_word (HFm.out w5 HF5.out) (k := 1) (by simp)
         simp at z0 z1
         clear hF5)
      | (go_at_call 17; (with_reducible refine (HRe.out w5 HF5.out).mono ?_); rintro e w6 ⟨rfl, hF6⟩
         have HF6 := Lib.hid (HF5.out.trans hF6 (by simp))
         have y0 := row_word (HFm.out w6 HF6.out) (k := 0) (by simp)
         have y1 := row_word (HFm.out w6 HF6.out) (k := 1) (by simp)
         simp at y0 y1
         clear hF6)
      | (go_at_call 17; (with_reducible refine (HRx.out w6).mono ?_); rintro e w7 ⟨rfl, hF7⟩
         have HF7 := Lib.hid ((HF6.out.alloc _).trans hF7 (by simp))
         have y0 := row_word (HFm.out w7 HF7.out) (k := 0) (by simp)
         have y1 := row_word (HFm.out w7 HF7.out) (k := 1) (by simp)
         simp at y0 y1
         clear hF7))
    all_goals
      go_wp2_with (fail)
      go_ret
      exact ⟨rfl, (HF1w.out.trans HF7.out (by simp)).below_nil⟩
  | some i =>
    have hk1 := (HAok.out.each i (MP.look_lt hl)).1
    have e1 : kindN ts x = (AP.th ts i).k := by simp [kindN, hl]
    rw [e1] at HKx
    generalize (AP.th ts i).k = kk at HKx hk1
    have hk0 : (0 : Int) < kk := by omega
    have hk2 : decide ((0 : Int) < kk) = true := by simpa using hk0
    clear hl e1
    go_wp2_with (fail)
    first | refine wp_region_noPanic ?_ | skip
    refine wp_region_held_drew (S := (fun w' : World => w'.cell? ⟨wm, 0, none⟩ = some (.int .u64 y) ∧ w'.cell? ⟨wm, 1, none⟩ = some (.int .u64 y))) (by kernel_rfl) ?_ (fun hHeld => ?_)
    · exact ⟨m0, m1⟩
    refine wpAnyH_take (i := 0) (oi := { dst := some 54, op := Op.move (Operand.tmp 5), type := 4, pos := "law.go:200", after := #[], guard := none }) (v := ?v0) rfl (by kernel_rfl) (by kernel_rfl) (by kernel_rfl) (fun _ _ _ h => h) (Or.inl ⟨by rfl, ?hy0⟩) (by assumption) ?rest0
    case hy0 => (intro w hSw; (try dsimp only at hSw); go_simp; try (with_reducible rfl))
    try simp only [Act.put, List.setIfInBounds_toArray, List.set_cons_zero, List.set_cons_succ]
    refine wpAnyH_take (i := 1) (oi := { dst := some 55, op := Op.move (Operand.tmp 54), type := 4, pos := "law.go:200", after := #[{ on := 0, ground := Ground.data }], guard := none }) (v := ?v1) rfl (by kernel_rfl) (by kernel_rfl) (by kernel_rfl) (fun _ _ _ h => h) (Or.inl ⟨by rfl, ?hy1⟩) (by assumption) ?rest1
    case hy1 => (intro w hSw; (try dsimp only at hSw); go_simp; try (with_reducible rfl))
    try simp only [Act.put, List.setIfInBounds_toArray, List.set_cons_zero, List.set_cons_succ]
    refine wpAnyH_take (i := 2) (oi := { dst := some 56, op := Op.move (Operand.tmp 9), type := 27, pos := "law.go:200", after := #[{ on := 1, ground := Ground.guard }], guard := some (1, true) }) (v := ?v2) rfl (by kernel_rfl) (by kernel_rfl) (by kernel_rfl) (fun _ _ _ h => h) (Or.inl ⟨by rfl, ?hy2⟩) (by assumption) ?rest2
    case hy2 => (intro w hSw; (try dsimp only at hSw); go_simp; try (with_reducible rfl))
    try simp only [Act.put, List.setIfInBounds_toArray, List.set_cons_zero, List.set_cons_succ]
    refine wpAnyH_ready (rs := [3]) (by kernel_rfl) (by simp) ?_
    refine AllReadyH.cons (o := { dst := some 57, op := Op.call { callee := Callee.value (Operand.func 23), args := #[Operand.tmp 56], argTypes := #[27] }, type := 3, pos := "law.go:200", after := #[{ on := 2, ground := Ground.data }, { on := 1, ground := Ground.chain }, { on := 1, ground := Ground.guard }], guard := some (1, true) }) rfl (fun K hK => ?_) AllReadyH.nil
    go_simp
    go_at_call 23
    refine HUb.out.mono ?_
    rintro e w' ⟨rfl, rfl⟩
    refine hK.out _ _ ?_ (fun hHeld => ?_)
    · try dsimp only
      exact ⟨m0, m1⟩
    clear hK K
    try simp only [Act.put, List.setIfInBounds_toArray, List.set_cons_zero, List.set_cons_succ]
    refine wpAnyH_take (i := 4) (oi := { dst := some 58, op := Op.binOp BinOp.eql 3 (Operand.tmp 57) (Operand.const (Value.int IntKind.i64 0)) 3, type := 4, pos := "law.go:200", after := #[{ on := 3, ground := Ground.data }, { on := 1, ground := Ground.guard }], guard := some (1, true) }) (v := ?v4) rfl (by kernel_rfl) (by kernel_rfl) (by kernel_rfl) (fun _ _ _ h => h) (Or.inl ⟨by rfl, ?hy4⟩) (by assumption) ?rest4
    case hy4 => (intro w hSw; (try dsimp only at hSw); go_simp; try (with_reducible rfl))
    try simp only [Act.put, List.setIfInBounds_toArray, List.set_cons_zero, List.set_cons_succ]
    refine wpAnyH_take (i := 5) (oi := { dst := some 59, op := Op.pick (Operand.tmp 55) (Operand.tmp 58) (Operand.const (Value.bool false)), type := 4, pos := "law.go:200", after := #[{ on := 1, ground := Ground.data }, { on := 4, ground := Ground.data }], guard := none }) (v := ?v5) rfl (by kernel_rfl) (by kernel_rfl) (by kernel_rfl) (fun _ _ _ h => h) (Or.inl ⟨by rfl, ?hy5⟩) (by assumption) ?rest5
    case hy5 => (intro w hSw; (try dsimp only at hSw); go_simp; try (with_reducible rfl))
    try simp only [Act.put, List.setIfInBounds_toArray, List.set_cons_zero, List.set_cons_succ]
    refine wpAnyH_take (i := 6) (oi := { dst := some 60, op := Op.move (Operand.tmp 59), type := 4, pos := "law.go:200", after := #[{ on := 5, ground := Ground.data }, { on := 3, ground := Ground.chain }], guard := none }) (v := ?v6) rfl (by kernel_rfl) (by kernel_rfl) (by kernel_rfl) (fun _ _ _ h => h) (Or.inl ⟨by rfl, ?hy6⟩) (by assumption) ?rest6
    case hy6 => (intro w hSw; (try dsimp only at hSw); go_simp; try (with_reducible rfl))
    try simp only [Act.put, List.setIfInBounds_toArray, List.set_cons_zero, List.set_cons_succ]
    refine wpAnyH_take (i := 7) (oi := { dst := some 61, op := Op.move (Operand.tmp 10), type := 23, pos := "law.go:200", after := #[{ on := 6, ground := Ground.guard }], guard := some (6, true) }) (v := ?v7) rfl (by kernel_rfl) (by kernel_rfl) (by kernel_rfl) (fun _ _ _ h => h) (Or.inl ⟨by rfl, ?hy7⟩) (by assumption) ?rest7
    case hy7 => (intro w hSw; (try dsimp only at hSw); go_simp; try (with_reducible rfl))
    try simp only [Act.put, List.setIfInBounds_toArray, List.set_cons_zero, List.set_cons_succ]
    refine wpAnyH_take (i := 8) (oi := { dst := some 62, op := Op.call { callee := Callee.builtin Builtin.len, args := #[Operand.tmp 61], argTypes := #[23] }, type := 3, pos := "law.go:200", after := #[{ on := 7, ground := Ground.data }, { on := 6, ground := Ground.guard }], guard := some (6, true) }) (v := ?v8) rfl (by kernel_rfl) (by kernel_rfl) (by kernel_rfl) (fun _ _ _ h => h) (Or.inl ⟨by rfl, ?hy8⟩) (by assumption) ?rest8
    case hy8 => (intro w hSw; (try dsimp only at hSw); go_simp; try (with_reducible rfl))
    try simp only [Act.put, List.setIfInBounds_toArray, List.set_cons_zero, List.set_cons_succ]
    refine wpAnyH_take (i := 9) (oi := { dst := some 63, op := Op.binOp BinOp.eql 3 (Operand.tmp 62) (Operand.const (Value.int IntKind.i64 0)) 3, type := 4, pos := "law.go:200", after := #[{ on := 8, ground := Ground.data }, { on := 6, ground := Ground.guard }], guard := some (6, true) }) (v := ?v9) rfl (by kernel_rfl) (by kernel_rfl) (by kernel_rfl) (fun _ _ _ h => h) (Or.inl ⟨by rfl, ?hy9⟩) (by assumption) ?rest9
    case hy9 => (intro w hSw; (try dsimp only at hSw); go_simp; try (with_reducible rfl))
    try simp only [Act.put, List.setIfInBounds_toArray, List.set_cons_zero, List.set_cons_succ]
    refine wpAnyH_take (i := 10) (oi := { dst := some 64, op := Op.pick (Operand.tmp 60) (Operand.tmp 63) (Operand.const (Value.bool false)), type := 4, pos := "law.go:200", after := #[{ on := 6, ground := Ground.data }, { on := 9, ground := Ground.data }], guard := none }) (v := ?v10) rfl (by kernel_rfl) (by kernel_rfl) (by kernel_rfl) (fun _ _ _ h => h) (Or.inl ⟨by rfl, ?hy10⟩) (by assumption) ?rest10
    case hy10 => (intro w hSw; (try dsimp only at hSw); go_simp; try (with_reducible rfl))
    try simp only [Act.put, List.setIfInBounds_toArray, List.set_cons_zero, List.set_cons_succ]
    refine wpAnyH_take (i := 11) (oi := { dst := some 65, op := Op.move (Operand.tmp 64), type := 4, pos := "law.go:200", after := #[{ on := 10, ground := Ground.data }, { on := 6, ground := Ground.chain }], guard := none }) (v := ?v11) rfl (by kernel_rfl) (by kernel_rfl) (by kernel_rfl) (fun _ _ _ h => h) (Or.inl ⟨by rfl, ?hy11⟩) (by assumption) ?rest11
    case hy11 => (intro w hSw; (try dsimp only at hSw); go_simp; try (with_reducible rfl))
    try simp only [Act.put, List.setIfInBounds_toArray, List.set_cons_zero, List.set_cons_succ]
    refine wpAnyH_take (i := 12) (oi := { dst := some 66, op := Op.move (Operand.tmp 12), type := 23, pos := "law.go:200", after := #[{ on := 11, ground := Ground.guard }], guard := some (11, true) }) (v := ?v12) rfl (by kernel_rfl) (by kernel_rfl) (by kernel_rfl) (fun _ _ _ h => h) (Or.inl ⟨by rfl, ?hy12⟩) (by assumption) ?rest12
    case hy12 => (intro w hSw; (try dsimp only at hSw); go_simp; try (with_reducible rfl))
    try simp only [Act.put, List.setIfInBounds_toArray, List.set_cons_zero, List.set_cons_succ]
    refine wpAnyH_take (i := 13) (oi := { dst := some 67, op := Op.indexAddr 23 (Operand.tmp 66) (Operand.const (Value.int IntKind.i64 0)), type := 0, pos := "law.go:200", after := #[{ on := 12, ground := Ground.data }, { on := 11, ground := Ground.guard }], guard := some (11, true) }) (v := ?v13) rfl (by kernel_rfl) (by kernel_rfl) (by kernel_rfl) (fun _ _ _ h => h) (Or.inl ⟨by rfl, ?hy13⟩) (by assumption) ?rest13
    case hy13 => (intro w hSw; (try dsimp only at hSw); go_simp; try (with_reducible rfl))
    try simp only [Act.put, List.setIfInBounds_toArray, List.set_cons_zero, List.set_cons_succ]
    refine wpAnyH_take (i := 14) (oi := { dst := some 68, op := Op.load 42 (Operand.tmp 67), type := 42, pos := "law.go:200", after := #[{ on := 13, ground := Ground.data }, { on := 11, ground := Ground.guard }], guard := some (11, true) }) (v := ?v14) rfl (by kernel_rfl) (by kernel_rfl) (by kernel_rfl) (fun _ _ _ h => h) (Or.inl ⟨by rfl, ?hy14⟩) (by assumption) ?rest14
    case hy14 => (intro w hSw; (try dsimp only at hSw); go_simp; try (with_reducible rfl))
    try simp only [Act.put, List.setIfInBounds_toArray, List.set_cons_zero, List.set_cons_succ]
    refine wpAnyH_take (i := 15) (oi := { dst := some 69, op := Op.move (Operand.tmp 12), type := 23, pos := "law.go:200", after := #[{ on := 11, ground := Ground.guard }], guard := some (11, true) }) (v := ?v15) rfl (by kernel_rfl) (by kernel_rfl) (by kernel_rfl) (fun _ _ _ h => h) (Or.inl ⟨by rfl, ?hy15⟩) (by assumption) ?rest15
    case hy15 => (intro w hSw; (try dsimp only at hSw); go_simp; try (with_reducible rfl))
    try simp only [Act.put, List.setIfInBounds_toArray, List.set_cons_zero, List.set_cons_succ]
    refine wpAnyH_take (i := 16) (oi := { dst := some 70, op := Op.indexAddr 23 (Operand.tmp 69) (Operand.const (Value.int IntKind.i64 1)), type := 0, pos := "law.go:200", after := #[{ on := 15, ground := Ground.data }, { on := 11, ground := Ground.guard }], guard := some (11, true) }) (v := ?v16) rfl (by kernel_rfl) (by kernel_rfl) (by kernel_rfl) (fun _ _ _ h => h) (Or.inl ⟨by rfl, ?hy16⟩) (by assumption) ?rest16
    case hy16 => (intro w hSw; (try dsimp only at hSw); go_simp; try (with_reducible rfl))
    try simp only [Act.put, List.setIfInBounds_toArray, List.set_cons_zero, List.set_cons_succ]
    refine wpAnyH_take (i := 17) (oi := { dst := some 71, op := Op.load 42 (Operand.tmp 70), type := 42, pos := "law.go:200", after := #[{ on := 16, ground := Ground.data }, { on := 11, ground := Ground.guard }], guard := some (11, true) }) (v := ?v17) rfl (by kernel_rfl) (by kernel_rfl) (by kernel_rfl) (fun _ _ _ h => h) (Or.inl ⟨by rfl, ?hy17⟩) (by assumption) ?rest17
    case hy17 => (intro w hSw; (try dsimp only at hSw); go_simp; try (with_reducible rfl))
    try simp only [Act.put, List.setIfInBounds_toArray, List.set_cons_zero, List.set_cons_succ]
    refine wpAnyH_take (i := 18) (oi := { dst := some 72, op := Op.binOp BinOp.eql 42 (Operand.tmp 68) (Operand.tmp 71) 42, type := 4, pos := "law.go:200", after := #[{ on := 14, ground := Ground.data }, { on := 17, ground := Ground.data }, { on := 11, ground := Ground.guard }], guard := some (11, true) }) (v := ?v18) rfl (by kernel_rfl) (by kernel_rfl) (by kernel_rfl) (fun _ _ _ h => h) (Or.inl ⟨by rfl, ?hy18⟩) (by assumption) ?rest18
    case hy18 => (intro w hSw; (try dsimp only at hSw); go_simp; try (with_reducible rfl))
    try simp only [Act.put, List.setIfInBounds_toArray, List.set_cons_zero, List.set_cons_succ]
    refine wpAnyH_take (i := 19) (oi := { dst := some 73, op := Op.pick (Operand.tmp 65) (Operand.tmp 72) (Operand.const (Value.bool false)), type := 4, pos := "law.go:200", after := #[{ on := 11, ground := Ground.data }, { on := 18, ground := Ground.data }], guard := none }) (v := ?v19) rfl (by kernel_rfl) (by kernel_rfl) (by kernel_rfl) (fun _ _ _ h => h) (Or.inl ⟨by rfl, ?hy19⟩) (by assumption) ?rest19
    case hy19 => (intro w hSw; (try dsimp only at hSw); go_simp; try (with_reducible rfl))
    try simp only [Act.put, List.setIfInBounds_toArray, List.set_cons_zero, List.set_cons_succ]
    refine wpAnyH_take (i := 20) (oi := { dst := some 74, op := Op.move (Operand.tmp 73), type := 4, pos := "law.go:200", after := #[{ on := 19, ground := Ground.data }, { on := 11, ground := Ground.chain }], guard := none }) (v := ?v20) rfl (by kernel_rfl) (by kernel_rfl) (by kernel_rfl) (fun _ _ _ h => h) (Or.inl ⟨by rfl, ?hy20⟩) (by assumption) ?rest20
    case hy20 => (intro w hSw; (try dsimp only at hSw); go_simp; try (with_reducible rfl))
    try simp only [Act.put, List.setIfInBounds_toArray, List.set_cons_zero, List.set_cons_succ]
    refine wpAnyH_take (i := 21) (oi := { dst := some 75, op := Op.move (Operand.tmp 6), type := 27, pos := "law.go:200", after := #[{ on := 20, ground := Ground.guard }], guard := some (20, true) }) (v := ?v21) rfl (by kernel_rfl) (by kernel_rfl) (by kernel_rfl) (fun _ _ _ h => h) (Or.inl ⟨by rfl, ?hy21⟩) (by assumption) ?rest21
    case hy21 => (intro w hSw; (try dsimp only at hSw); go_simp; try (with_reducible rfl))
    try simp only [Act.put, List.setIfInBounds_toArray, List.set_cons_zero, List.set_cons_succ]
    refine wpAnyH_take (i := 22) (oi := { dst := some 76, op := Op.move (Operand.tmp 1), type := 42, pos := "law.go:200", after := #[{ on := 20, ground := Ground.guard }], guard := some (20, true) }) (v := ?v22) rfl (by kernel_rfl) (by kernel_rfl) (by kernel_rfl) (fun _ _ _ h => h) (Or.inl ⟨by rfl, ?hy22⟩) (by assumption) ?rest22
    case hy22 => (intro w hSw; (try dsimp only at hSw); go_simp; try (with_reducible rfl))
    try simp only [Act.put, List.setIfInBounds_toArray, List.set_cons_zero, List.set_cons_succ]
    refine wpAnyH_ready (rs := [23]) (by kernel_rfl) (by simp) ?_
    refine AllReadyH.cons (o := { dst := some 77, op := Op.call { callee := Callee.value (Operand.func 19), args := #[Operand.tmp 75, Operand.tmp 76], argTypes := #[27, 42] }, type := 3, pos := "law.go:200", after := #[{ on := 21, ground := Ground.data }, { on := 22, ground := Ground.data }, { on := 20, ground := Ground.chain }, { on := 20, ground := Ground.guard }], guard := some (20, true) }) rfl (fun K hK => ?_) AllReadyH.nil
    go_simp
    go_at_call 19
    refine HKx.out.mono ?_
    rintro e w' ⟨rfl, rfl⟩
    refine hK.out _ _ ?_ (fun hHeld => ?_)
    · try dsimp only
      exact ⟨m0, m1⟩
    clear hK K
    try simp only [Act.put, List.setIfInBounds_toArray, List.set_cons_zero, List.set_cons_succ]
    refine wpAnyH_take (i := 24) (oi := { dst := some 78, op := Op.binOp BinOp.gtr 3 (Operand.tmp 77) (Operand.const (Value.int IntKind.i64 0)) 3, type := 4, pos := "law.go:200", after := #[{ on := 23, ground := Ground.data }, { on := 20, ground := Ground.guard }], guard := some (20, true) }) (v := ?v24) rfl (by kernel_rfl) (by kernel_rfl) (by kernel_rfl) (fun _ _ _ h => h) (Or.inl ⟨by rfl, ?hy24⟩) (by assumption) ?rest24
    case hy24 => (intro w hSw; (try dsimp only at hSw); go_simp; try (with_reducible rfl))
    try simp only [Act.put, List.setIfInBounds_toArray, List.set_cons_zero, List.set_cons_succ]
    refine wpAnyH_take (i := 25) (oi := { dst := some 79, op := Op.move (Operand.tmp 78), type := 4, pos := "law.go:200", after := #[{ on := 24, ground := Ground.data }, { on := 23, ground := Ground.chain }, { on := 20, ground := Ground.guard }], guard := some (20, true) }) (v := ?v25) rfl (by kernel_rfl) (by kernel_rfl) (by kernel_rfl) (fun _ _ _ h => h) (Or.inl ⟨by rfl, ?hy25⟩) (by assumption) ?rest25
    case hy25 => (intro w hSw; (try dsimp only at hSw); go_simp; try (with_reducible rfl))
    try simp only [Act.put, List.setIfInBounds_toArray, List.set_cons_zero, List.set_cons_succ]
    refine wpAnyH_take (i := 26) (oi := { dst := some 80, op := Op.move (Operand.tmp 12), type := 23, pos := "law.go:200", after := #[{ on := 25, ground := Ground.guard }], guard := some (25, false) }) (v := undef) rfl (by kernel_rfl) (by kernel_rfl) (by kernel_rfl) (fun _ _ _ h => h) (Or.inr ⟨by rfl, rfl⟩) (by assumption) ?_
    try simp only [Act.put, List.setIfInBounds_toArray, List.set_cons_zero, List.set_cons_succ]
    refine wpAnyH_take (i := 27) (oi := { dst := some 81, op := Op.indexAddr 23 (Operand.tmp 80) (Operand.const (Value.int IntKind.i64 0)), type := 0, pos := "law.go:200", after := #[{ on := 26, ground := Ground.data }, { on := 25, ground := Ground.guard }], guard := some (25, false) }) (v := undef) rfl (by kernel_rfl) (by kernel_rfl) (by kernel_rfl) (fun _ _ _ h => h) (Or.inr ⟨by rfl, rfl⟩) (by assumption) ?_
    try simp only [Act.put, List.setIfInBounds_toArray, List.set_cons_zero, List.set_cons_succ]
    refine wpAnyH_take (i := 28) (oi := { dst := some 82, op := Op.load 42 (Operand.tmp 81), type := 42, pos := "law.go:200", after := #[{ on := 27, ground := Ground.data }, { on := 25, ground := Ground.guard }], guard := some (25, false) }) (v := undef) rfl (by kernel_rfl) (by kernel_rfl) (by kernel_rfl) (fun _ _ _ h => h) (Or.inr ⟨by rfl, rfl⟩) (by assumption) ?_
    try simp only [Act.put, List.setIfInBounds_toArray, List.set_cons_zero, List.set_cons_succ]
    refine wpAnyH_take (i := 29) (oi := { dst := some 83, op := Op.move (Operand.tmp 1), type := 42, pos := "law.go:200", after := #[{ on := 25, ground := Ground.guard }], guard := some (25, false) }) (v := undef) rfl (by kernel_rfl) (by kernel_rfl) (by kernel_rfl) (fun _ _ _ h => h) (Or.inr ⟨by rfl, rfl⟩) (by assumption) ?_
    try simp only [Act.put, List.setIfInBounds_toArray, List.set_cons_zero, List.set_cons_succ]
    refine wpAnyH_ready (rs := [30]) (by kernel_rfl) (by simp) ?_
    refine AllReadyH.cons (o := { dst := some 84, op := Op.call { callee := Callee.value (Operand.func 20), args := #[Operand.tmp 83], argTypes := #[42] }, type := 42, pos := "law.go:200", after := #[{ on := 29, ground := Ground.data }, { on := 25, ground := Ground.chain }, { on := 25, ground := Ground.guard }], guard := some (25, false) }) rfl (fun K hK => ?_) AllReadyH.nil
    go_simp
    refine hK.out _ _ ?_ (fun hHeld => ?_)
    · try dsimp only
      exact ⟨m0, m1⟩
    clear hK K
    try simp only [Act.put, List.setIfInBounds_toArray, List.set_cons_zero, List.set_cons_succ]
    refine wpAnyH_take (i := 31) (oi := { dst := some 85, op := Op.binOp BinOp.eql 42 (Operand.tmp 82) (Operand.tmp 84) 42, type := 4, pos := "law.go:200", after := #[{ on := 28, ground := Ground.data }, { on := 30, ground := Ground.data }, { on := 25, ground := Ground.guard }], guard := some (25, false) }) (v := undef) rfl (by kernel_rfl) (by kernel_rfl) (by kernel_rfl) (fun _ _ _ h => h) (Or.inr ⟨by rfl, rfl⟩) (by assumption) ?_
    try simp only [Act.put, List.setIfInBounds_toArray, List.set_cons_zero, List.set_cons_succ]
    refine wpAnyH_take (i := 32) (oi := { dst := some 86, op := Op.move (Operand.tmp 85), type := 4, pos := "law.go:200", after := #[{ on := 31, ground := Ground.data }, { on := 30, ground := Ground.chain }, { on := 25, ground := Ground.guard }], guard := some (25, false) }) (v := undef) rfl (by kernel_rfl) (by kernel_rfl) (by kernel_rfl) (fun _ _ _ h => h) (Or.inr ⟨by rfl, rfl⟩) (by assumption) ?_
    try simp only [Act.put, List.setIfInBounds_toArray, List.set_cons_zero, List.set_cons_succ]
    refine wpAnyH_take (i := 33) (oi := { dst := some 87, op := Op.move (Operand.tmp 11), type := 27, pos := "law.go:200", after := #[{ on := 32, ground := Ground.guard }], guard := some (32, true) }) (v := undef) rfl (by kernel_rfl) (by kernel_rfl) (by kernel_rfl) (fun _ _ _ h => h) (Or.inr ⟨by rfl, rfl⟩) (by assumption) ?_
    try simp only [Act.put, List.setIfInBounds_toArray, List.set_cons_zero, List.set_cons_succ]
    refine wpAnyH_ready (rs := [34]) (by kernel_rfl) (by simp) ?_
    refine AllReadyH.cons (o := { dst := some 88, op := Op.call { callee := Callee.value (Operand.func 23), args := #[Operand.tmp 87], argTypes := #[27] }, type := 3, pos := "law.go:200", after := #[{ on := 33, ground := Ground.data }, { on := 32, ground := Ground.chain }, { on := 32, ground := Ground.guard }], guard := some (32, true) }) rfl (fun K hK => ?_) AllReadyH.nil
    go_simp
    refine hK.out _ _ ?_ (fun hHeld => ?_)
    · try dsimp only
      exact ⟨m0, m1⟩
    clear hK K
    try simp only [Act.put, List.setIfInBounds_toArray, List.set_cons_zero, List.set_cons_succ]
    refine wpAnyH_take (i := 35) (oi := { dst := some 89, op := Op.binOp BinOp.eql 3 (Operand.tmp 88) (Operand.const (Value.int IntKind.i64 0)) 3, type := 4, pos := "law.go:200", after := #[{ on := 34, ground := Ground.data }, { on := 32, ground := Ground.guard }], guard := some (32, true) }) (v := undef) rfl (by kernel_rfl) (by kernel_rfl) (by kernel_rfl) (fun _ _ _ h => h) (Or.inr ⟨by rfl, rfl⟩) (by assumption) ?_
    try simp only [Act.put, List.setIfInBounds_toArray, List.set_cons_zero, List.set_cons_succ]
    refine wpAnyH_take (i := 36) (oi := { dst := some 90, op := Op.pick (Operand.tmp 86) (Operand.tmp 89) (Operand.const (Value.bool false)), type := 4, pos := "law.go:200", after := #[{ on := 32, ground := Ground.data }, { on := 35, ground := Ground.data }, { on := 25, ground := Ground.guard }], guard := some (25, false) }) (v := undef) rfl (by kernel_rfl) (by kernel_rfl) (by kernel_rfl) (fun _ _ _ h => h) (Or.inr ⟨by rfl, rfl⟩) (by assumption) ?_
    try simp only [Act.put, List.setIfInBounds_toArray, List.set_cons_zero, List.set_cons_succ]
    refine wpAnyH_take (i := 37) (oi := { dst := some 91, op := Op.pick (Operand.tmp 79) (Operand.const (Value.bool true)) (Operand.tmp 90), type := 4, pos := "law.go:200", after := #[{ on := 25, ground := Ground.data }, { on := 36, ground := Ground.data }, { on := 20, ground := Ground.guard }], guard := some (20, true) }) (v := ?v37) rfl (by kernel_rfl) (by kernel_rfl) (by kernel_rfl) (fun _ _ _ h => h) (Or.inl ⟨by rfl, ?hy37⟩) (by assumption) ?rest37
    case hy37 => (intro w hSw; (try dsimp only at hSw); go_simp; try (with_reducible rfl))
    try simp only [Act.put, List.setIfInBounds_toArray, List.set_cons_zero, List.set_cons_succ]
    refine wpAnyH_take (i := 38) (oi := { dst := some 92, op := Op.pick (Operand.tmp 74) (Operand.tmp 91) (Operand.const (Value.bool false)), type := 4, pos := "law.go:200", after := #[{ on := 20, ground := Ground.data }, { on := 37, ground := Ground.data }], guard := none }) (v := ?v38) rfl (by kernel_rfl) (by kernel_rfl) (by kernel_rfl) (fun _ _ _ h => h) (Or.inl ⟨by rfl, ?hy38⟩) (by assumption) ?rest38
    case hy38 => (intro w hSw; (try dsimp only at hSw); go_simp; try (with_reducible rfl))
    try simp only [Act.put, List.setIfInBounds_toArray, List.set_cons_zero, List.set_cons_succ]
    refine wpAnyH_take (i := 39) (oi := { dst := some 93, op := Op.move (Operand.tmp 92), type := 4, pos := "law.go:200", after := #[{ on := 38, ground := Ground.data }, { on := 34, ground := Ground.chain }], guard := none }) (v := ?v39) rfl (by kernel_rfl) (by kernel_rfl) (by kernel_rfl) (fun _ _ _ h => h) (Or.inl ⟨by rfl, ?hy39⟩) (by assumption) ?rest39
    case hy39 => (intro w hSw; (try dsimp only at hSw); go_simp; try (with_reducible rfl))
    try simp only [Act.put, List.setIfInBounds_toArray, List.set_cons_zero, List.set_cons_succ]
    refine wpAnyH_take (i := 40) (oi := { dst := some 94, op := Op.move (Operand.tmp 13), type := 27, pos := "law.go:200", after := #[{ on := 39, ground := Ground.guard }], guard := some (39, true) }) (v := ?v40) rfl (by kernel_rfl) (by kernel_rfl) (by kernel_rfl) (fun _ _ _ h => h) (Or.inl ⟨by rfl, ?hy40⟩) (by assumption) ?rest40
    case hy40 => (intro w hSw; (try dsimp only at hSw); go_simp; try (with_reducible rfl))
    try simp only [Act.put, List.setIfInBounds_toArray, List.set_cons_zero, List.set_cons_succ]
    refine wpAnyH_take (i := 41) (oi := { dst := some 95, op := Op.binOp BinOp.eql 27 (Operand.tmp 94) (Operand.const (Value.pointer none)) 27, type := 4, pos := "law.go:200", after := #[{ on := 40, ground := Ground.data }, { on := 39, ground := Ground.guard }], guard := some (39, true) }) (v := ?v41) rfl (by kernel_rfl) (by kernel_rfl) (by kernel_rfl) (fun _ _ _ h => h) (Or.inl ⟨by rfl, ?hy41⟩) (by assumption) ?rest41
    case hy41 => (intro w hSw; (try dsimp only at hSw); go_simp; try (with_reducible rfl))
    try simp only [Act.put, List.setIfInBounds_toArray, List.set_cons_zero, List.set_cons_succ]
    refine wpAnyH_take (i := 42) (oi := { dst := some 96, op := Op.pick (Operand.tmp 93) (Operand.tmp 95) (Operand.const (Value.bool false)), type := 4, pos := "law.go:200", after := #[{ on := 39, ground := Ground.data }, { on := 41, ground := Ground.data }], guard := none }) (v := ?v42) rfl (by kernel_rfl) (by kernel_rfl) (by kernel_rfl) (fun _ _ _ h => h) (Or.inl ⟨by rfl, ?hy42⟩) (by assumption) ?rest42
    case hy42 => (intro w hSw; (try dsimp only at hSw); go_simp; try (with_reducible rfl))
    try simp only [Act.put, List.setIfInBounds_toArray, List.set_cons_zero, List.set_cons_succ]
    refine wpAnyH_take (i := 43) (oi := { dst := some 97, op := Op.move (Operand.tmp 96), type := 4, pos := "law.go:200", after := #[{ on := 42, ground := Ground.data }, { on := 39, ground := Ground.chain }], guard := none }) (v := ?v43) rfl (by kernel_rfl) (by kernel_rfl) (by kernel_rfl) (fun _ _ _ h => h) (Or.inl ⟨by rfl, ?hy43⟩) (by assumption) ?rest43
    case hy43 => (intro w hSw; (try dsimp only at hSw); go_simp; try (with_reducible rfl))
    try simp only [Act.put, List.setIfInBounds_toArray, List.set_cons_zero, List.set_cons_succ]
    refine wpAnyH_take (i := 44) (oi := { dst := some 98, op := Op.move (Operand.tmp 14), type := 23, pos := "law.go:200", after := #[{ on := 43, ground := Ground.guard }], guard := some (43, true) }) (v := ?v44) rfl (by kernel_rfl) (by kernel_rfl) (by kernel_rfl) (fun _ _ _ h => h) (Or.inl ⟨by rfl, ?hy44⟩) (by assumption) ?rest44
    case hy44 => (intro w hSw; (try dsimp only at hSw); go_simp; try (with_reducible rfl))
    try simp only [Act.put, List.setIfInBounds_toArray, List.set_cons_zero, List.set_cons_succ]
    refine wpAnyH_take (i := 45) (oi := { dst := some 99, op := Op.move (Operand.tmp 1), type := 42, pos := "law.go:200", after := #[{ on := 43, ground := Ground.guard }], guard := some (43, true) }) (v := ?v45) rfl (by kernel_rfl) (by kernel_rfl) (by kernel_rfl) (fun _ _ _ h => h) (Or.inl ⟨by rfl, ?hy45⟩) (by assumption) ?rest45
    case hy45 => (intro w hSw; (try dsimp only at hSw); go_simp; try (with_reducible rfl))
    try simp only [Act.put, List.setIfInBounds_toArray, List.set_cons_zero, List.set_cons_succ]
    refine wpAnyH_ready (rs := [46]) (by kernel_rfl) (by simp) ?_
    refine AllReadyH.cons (o := { dst := some 100, op := Op.buildSlice 23 1 #[(0, Operand.tmp 99)], type := 23, pos := "law.go:200", after := #[{ on := 45, ground := Ground.data }, { on := 43, ground := Ground.guard }], guard := some (43, true) }) rfl (fun K hK => ?_) AllReadyH.nil
    go_simp
    refine hK.out _ _ ?_ (fun hHeld => ?_)
    · try dsimp only
      go_keep
    clear hK K
    try simp only [Act.put, List.setIfInBounds_toArray, List.set_cons_zero, List.set_cons_succ]
    refine wpAnyH_ready (rs := [47]) (by kernel_rfl) (by simp) ?_
    refine AllReadyH.cons (o := { dst := some 101, op := Op.call { callee := Callee.value (Operand.func 15), args := #[Operand.tmp 98, Operand.tmp 100], argTypes := #[23, 23] }, type := 4, pos := "law.go:200", after := #[{ on := 44, ground := Ground.data }, { on := 46, ground := Ground.data }, { on := 43, ground := Ground.chain }, { on := 43, ground := Ground.guard }], guard := some (43, true) }) rfl (fun K hK => ?_) AllReadyH.nil
    go_simp
    go_at_call 15
    refine HWd.out.mono ?_
    rintro e w5 ⟨rfl, hF5⟩
    have HF5 := Lib.hid (hd5.out.trans hF5 (by simp))
    have z0 := row_word (HFm.out w5 HF5.out) (k := 0) (by simp)
    have z1 := row_word (HFm.out w5 HF5.out) (k := 1) (by simp)
    simp at z0 z1
    clear hF5
    refine hK.out _ _ ?_ (fun hHeld => ?_)
    · try dsimp only
      exact ⟨z0, z1⟩
    clear hK K
    try simp only [Act.put, List.setIfInBounds_toArray, List.set_cons_zero, List.set_cons_succ]
    refine wpAnyH_take (i := 48) (oi := { dst := some 102, op := Op.pick (Operand.tmp 97) (Operand.tmp 101) (Operand.const (Value.bool false)), type := 4, pos := "law.go:200", after := #[{ on := 43, ground := Ground.data }, { on := 47, ground := Ground.data }], guard := none }) (v := ?v48) rfl (by kernel_rfl) (by kernel_rfl) (by kernel_rfl) (fun _ _ _ h => h) (Or.inl ⟨by rfl, ?hy48⟩) (by assumption) ?rest48
    case hy48 => (intro w hSw; (try dsimp only at hSw); go_simp; try (with_reducible rfl))
    try simp only [Act.put, List.setIfInBounds_toArray, List.set_cons_zero, List.set_cons_succ]
    refine wpAnyH_take (i := 49) (oi := { dst := some 103, op := Op.move (Operand.tmp 102), type := 4, pos := "law.go:200", after := #[{ on := 48, ground := Ground.data }, { on := 47, ground := Ground.chain }], guard := none }) (v := ?v49) rfl (by kernel_rfl) (by kernel_rfl) (by kernel_rfl) (fun _ _ _ h => h) (Or.inl ⟨by rfl, ?hy49⟩) (by assumption) ?rest49
    case hy49 => (intro w hSw; (try dsimp only at hSw); go_simp; try (with_reducible rfl))
    try simp only [Act.put, List.setIfInBounds_toArray, List.set_cons_zero, List.set_cons_succ]
    refine wpAnyH_take (i := 50) (oi := { dst := some 104, op := Op.move (Operand.tmp 6), type := 27, pos := "law.go:200", after := #[{ on := 49, ground := Ground.guard }], guard := some (49, true) }) (v := ?v50) rfl (by kernel_rfl) (by kernel_rfl) (by kernel_rfl) (fun _ _ _ h => h) (Or.inl ⟨by rfl, ?hy50⟩) (by assumption) ?rest50
    case hy50 => (intro w hSw; (try dsimp only at hSw); go_simp; try (with_reducible rfl))
    try simp only [Act.put, List.setIfInBounds_toArray, List.set_cons_zero, List.set_cons_succ]
    refine wpAnyH_ready (rs := [51]) (by kernel_rfl) (by simp) ?_
    refine AllReadyH.cons (o := { dst := some 105, op := Op.call { callee := Callee.value (Operand.func 17), args := #[Operand.tmp 104, Operand.const (Value.slice none 0 0)], argTypes := #[27, 23] }, type := 3, pos := "law.go:200", after := #[{ on := 50, ground := Ground.data }, { on := 49, ground := Ground.chain }, { on := 49, ground := Ground.guard }], guard := some (49, true) }) rfl (fun K hK => ?_) AllReadyH.nil
    go_simp
    go_at_call 17
    refine (HRe.out w5 HF5.out).mono ?_
    rintro e w6 ⟨rfl, hF6⟩
    have HF6 := Lib.hid (HF5.out.trans hF6 (by simp))
    have u0 := row_word (HFm.out w6 HF6.out) (k := 0) (by simp)
    have u1 := row_word (HFm.out w6 HF6.out) (k := 1) (by simp)
    simp at u0 u1
    clear hF6
    refine hK.out _ _ ?_ (fun hHeld => ?_)
    · try dsimp only
      exact ⟨u0, u1⟩
    clear hK K
    try simp only [Act.put, List.setIfInBounds_toArray, List.set_cons_zero, List.set_cons_succ]
    refine wpAnyH_take (i := 52) (oi := { dst := some 106, op := Op.binOp BinOp.eql 3 (Operand.tmp 105) (Operand.const (Value.int IntKind.i64 0)) 3, type := 4, pos := "law.go:200", after := #[{ on := 51, ground := Ground.data }, { on := 49, ground := Ground.guard }], guard := some (49, true) }) (v := ?v52) rfl (by kernel_rfl) (by kernel_rfl) (by kernel_rfl) (fun _ _ _ h => h) (Or.inl ⟨by rfl, ?hy52⟩) (by assumption) ?rest52
    case hy52 => (intro w hSw; (try dsimp only at hSw); go_simp; try (with_reducible rfl))
    try simp only [Act.put, List.setIfInBounds_toArray, List.set_cons_zero, List.set_cons_succ]
    refine wpAnyH_take (i := 53) (oi := { dst := some 107, op := Op.pick (Operand.tmp 103) (Operand.tmp 106) (Operand.const (Value.bool false)), type := 4, pos := "law.go:200", after := #[{ on := 49, ground := Ground.data }, { on := 52, ground := Ground.data }], guard := none }) (v := ?v53) rfl (by kernel_rfl) (by kernel_rfl) (by kernel_rfl) (fun _ _ _ h => h) (Or.inl ⟨by rfl, ?hy53⟩) (by assumption) ?rest53
    case hy53 => (intro w hSw; (try dsimp only at hSw); go_simp; try (with_reducible rfl))
    try simp only [Act.put, List.setIfInBounds_toArray, List.set_cons_zero, List.set_cons_succ]
    refine wpAnyH_take (i := 54) (oi := { dst := some 108, op := Op.move (Operand.tmp 107), type := 4, pos := "law.go:200", after := #[{ on := 53, ground := Ground.data }, { on := 51, ground := Ground.chain }], guard := none }) (v := ?v54) rfl (by kernel_rfl) (by kernel_rfl) (by kernel_rfl) (fun _ _ _ h => h) (Or.inl ⟨by rfl, ?hy54⟩) (by assumption) ?rest54
    case hy54 => (intro w hSw; (try dsimp only at hSw); go_simp; try (with_reducible rfl))
    try simp only [Act.put, List.setIfInBounds_toArray, List.set_cons_zero, List.set_cons_succ]
    refine wpAnyH_take (i := 55) (oi := { dst := some 109, op := Op.move (Operand.tmp 1), type := 42, pos := "law.go:200", after := #[{ on := 54, ground := Ground.guard }], guard := some (54, true) }) (v := ?v55) rfl (by kernel_rfl) (by kernel_rfl) (by kernel_rfl) (fun _ _ _ h => h) (Or.inl ⟨by rfl, ?hy55⟩) (by assumption) ?rest55
    case hy55 => (intro w hSw; (try dsimp only at hSw); go_simp; try (with_reducible rfl))
    try simp only [Act.put, List.setIfInBounds_toArray, List.set_cons_zero, List.set_cons_succ]
    refine wpAnyH_ready (rs := [56]) (by kernel_rfl) (by simp) ?_
    refine AllReadyH.cons (o := { dst := some 110, op := Op.buildSlice 23 1 #[(0, Operand.tmp 109)], type := 23, pos := "law.go:200", after := #[{ on := 55, ground := Ground.data }, { on := 54, ground := Ground.guard }], guard := some (54, true) }) rfl (fun K hK => ?_) AllReadyH.nil
    go_simp
    refine hK.out _ _ ?_ (fun hHeld => ?_)
    · try dsimp only
      go_keep
    clear hK K
    try simp only [Act.put, List.setIfInBounds_toArray, List.set_cons_zero, List.set_cons_succ]
    refine wpAnyH_ready (rs := [57]) (by kernel_rfl) (by simp) ?_
    refine AllReadyH.cons (o := { dst := some 111, op := Op.call { callee := Callee.value (Operand.func 17), args := #[Operand.const (Value.pointer none), Operand.tmp 110], argTypes := #[27, 23] }, type := 3, pos := "law.go:200", after := #[{ on := 56, ground := Ground.data }, { on := 54, ground := Ground.chain }, { on := 54, ground := Ground.guard }], guard := some (54, true) }) rfl (fun K hK => ?_) AllReadyH.nil
    go_simp
    go_at_call 17
    refine (HRx.out w6).mono ?_
    rintro e w7 ⟨rfl, hF7⟩
    have HF7 := Lib.hid ((HF6.out.alloc _).trans hF7 (by simp))
    have t0 := row_word (HFm.out w7 HF7.out) (k := 0) (by simp)
    have t1 := row_word (HFm.out w7 HF7.out) (k := 1) (by simp)
    simp at t0 t1
    clear hF7
    refine hK.out _ _ ?_ (fun hHeld => ?_)
    · try dsimp only
      exact ⟨t0, t1⟩
    clear hK K
    try simp only [Act.put, List.setIfInBounds_toArray, List.set_cons_zero, List.set_cons_succ]
    refine wpAnyH_take (i := 58) (oi := { dst := some 112, op := Op.binOp BinOp.eql 3 (Operand.tmp 111) (Operand.const (Value.int IntKind.i64 0)) 3, type := 4, pos := "law.go:200", after := #[{ on := 57, ground := Ground.data }, { on := 54, ground := Ground.guard }], guard := some (54, true) }) (v := ?v58) rfl (by kernel_rfl) (by kernel_rfl) (by kernel_rfl) (fun _ _ _ h => h) (Or.inl ⟨by rfl, ?hy58⟩) (by assumption) ?rest58
    case hy58 => (intro w hSw; (try dsimp only at hSw); go_simp; try (with_reducible rfl))
    try simp only [Act.put, List.setIfInBounds_toArray, List.set_cons_zero, List.set_cons_succ]
    refine wpAnyH_take (i := 59) (oi := { dst := some 113, op := Op.pick (Operand.tmp 108) (Operand.tmp 112) (Operand.const (Value.bool false)), type := 4, pos := "law.go:200", after := #[{ on := 54, ground := Ground.data }, { on := 58, ground := Ground.data }], guard := none }) (v := ?v59) rfl (by kernel_rfl) (by kernel_rfl) (by kernel_rfl) (fun _ _ _ h => h) (Or.inl ⟨by rfl, ?hy59⟩) (by assumption) ?rest59
    case hy59 => (intro w hSw; (try dsimp only at hSw); go_simp; try (with_reducible rfl))
    try simp only [Act.put, List.setIfInBounds_toArray, List.set_cons_zero, List.set_cons_succ]
    refine wpAnyH_take (i := 60) (oi := { dst := some 4, op := Op.assign (Operand.tmp 113), type := 4, pos := "law.go:200", after := #[{ on := 59, ground := Ground.data }, { on := 57, ground := Ground.chain }, { on := 0, ground := Ground.phase }, { on := 1, ground := Ground.phase }, { on := 2, ground := Ground.phase }, { on := 3, ground := Ground.phase }, { on := 4, ground := Ground.phase }, { on := 5, ground := Ground.phase }, { on := 6, ground := Ground.phase }, { on := 7, ground := Ground.phase }, { on := 8, ground := Ground.phase }, { on := 9, ground := Ground.phase }, { on := 10, ground := Ground.phase }, { on := 11, ground := Ground.phase }, { on := 12, ground := Ground.phase }, { on := 13, ground := Ground.phase }, { on := 14, ground := Ground.phase }, { on := 15, ground := Ground.phase }, { on := 16, ground := Ground.phase }, { on := 17, ground := Ground.phase }, { on := 18, ground := Ground.phase }, { on := 19, ground := Ground.phase }, { on := 20, ground := Ground.phase }, { on := 21, ground := Ground.phase }, { on := 22, ground := Ground.phase }, { on := 23, ground := Ground.phase }, { on := 24, ground := Ground.phase }, { on := 25, ground := Ground.phase }, { on := 26, ground := Ground.phase }, { on := 27, ground := Ground.phase }, { on := 28, ground := Ground.phase }, { on := 29, ground := Ground.phase }, { on := 30, ground := Ground.phase }, { on := 31, ground := Ground.phase }, { on := 32, ground := Ground.phase }, { on := 33, ground := Ground.phase }, { on := 34, ground := Ground.phase }, { on := 35, ground := Ground.phase }, { on := 36, ground := Ground.phase }, { on := 37, ground := Ground.phase }, { on := 38, ground := Ground.phase }, { on := 39, ground := Ground.phase }, { on := 40, ground := Ground.phase }, { on := 41, ground := Ground.phase }, { on := 42, ground := Ground.phase }, { on := 43, ground := Ground.phase }, { on := 44, ground := Ground.phase }, { on := 45, ground := Ground.phase }, { on := 46, ground := Ground.phase }, { on := 47, ground := Ground.phase }, { on := 48, ground := Ground.phase }, { on := 49, ground := Ground.phase }, { on := 50, ground := Ground.phase }, { on := 51, ground := Ground.phase }, { on := 52, ground := Ground.phase }, { on := 53, ground := Ground.phase }, { on := 54, ground := Ground.phase }, { on := 55, ground := Ground.phase }, { on := 56, ground := Ground.phase }, { on := 57, ground := Ground.phase }, { on := 58, ground := Ground.phase }, { on := 59, ground := Ground.phase }], guard := none }) (v := ?v60) rfl (by kernel_rfl) (by kernel_rfl) (by kernel_rfl) (fun _ _ _ h => h) (Or.inl ⟨by rfl, ?hy60⟩) (by assumption) ?rest60
    case hy60 => (intro w hSw; (try dsimp only at hSw); go_simp; try (with_reducible rfl))
    try simp only [Act.put, List.setIfInBounds_toArray, List.set_cons_zero, List.set_cons_succ]
    refine wpAnyH_done (by kernel_rfl) ?_ _
    first | refine NoPanic.normal ?_ | skip
    go_wp2_with (fail)
    go_ret
    exact ⟨rfl, (HF1w.out.trans HF7.out (by simp)).below_nil⟩
end ML
end Go.Proofs.Ytokpiljbcbemlaa
