/-
  The walk of ArenaPlays: whatever is made, set, and asked for, what is told is the document's. Condition: the arguments' readings.
-/
import Derived.Test.YtfjijcepggmigaaArenaSt
import Derived.Deep.RegionWith
import Derived.Deep.RegionHeld3
import Derived.Deep.CutBlock
namespace Go.Proofs.Ytfjijcepggmigaa
open Go.RowKit
namespace AL
open AW RP RW
set_option maxRecDepth 100000 in
set_option maxHeartbeats 20000000 in
theorem plays (sz0 : Int) (a : Option Addr) (len cap : Nat) (tl : List Act) (w : World) (hz : Acts w a len cap tl) :
    Calls Try.prog 3 #[.int .i64 sz0, .slice a len cap] w fun e w' => e = .returned (.bool true) ∧ Below w.heap.size w w' := by
  have HZ := Lib.hid hz
  clear hz
  by_cases hbad : sz0 < 1 ∨ 65536 < sz0
  · have HB := Lib.hid hbad
    clear hbad
    go_enter Try.func3, Try.ntmps3
    go_wp2_with (fail)
    refine (shown_any w).mono ?_
    rintro e w0 ⟨rfl, hF0⟩
    go_wp2_with (first | (go_at_call 9; refine (new_bad _ _ HB.out).mono ?_; rintro e w' ⟨rfl, rfl⟩) | (go_at_call 10; refine (rnew_bad _ _ HB.out).mono ?_; rintro e w' ⟨rfl, rfl⟩))
    go_ret
    exact ⟨rfl, hF0.below_nil⟩
  · obtain ⟨n, rfl⟩ : ∃ n : Nat, sz0 = n := ⟨sz0.toNat, by omega⟩
    have hn1 : 1 ≤ n := by omega
    have hn2 : n ≤ 65536 := by omega
    clear hbad
    go_enter Try.func3, Try.ntmps3
    go_wp2_with (fail)
    refine (shown_any w).mono ?_
    rintro e w0 ⟨rfl, hF0⟩
    go_wp2_with (fail)
    refine (new_ok w0 n hn1 hn2).mono ?_
    rintro e w1 ⟨p, g, h, rfl, hp, hgw, hh, hA1, hF1⟩
    go_wp2_with (fail)
    refine (rnew_ok w1 0 n hn1 hn2).mono ?_
    rintro e w2 ⟨q, rfl, hq, hR2, hF2⟩
    go_wp2_with (fail)
    refine (few_any a len cap tl w2 ⟨HZ.out.len_, HZ.out.le, HZ.out.max, HZ.out.nil, fun i t ht => by
      obtain ⟨b, off, e1, e2, e3, e4⟩ := HZ.out.elems i t ht
      have f := (hF0.trans hF1 (by simp)).trans hF2 (by simp)
      exact ⟨b, off, e1, by have := f.size; omega, fun j u hu => by rw [f.cell (p := ⟨b, off + i * 6 + j, none⟩) e2 (by simp)]; exact e3 j u hu, ⟨e4.hk, e4.hn, e4.hi, e4.hw, e4.hx, e4.hz.far f⟩⟩⟩).mono ?_
    rintro e w3 ⟨fv, rfl, hG⟩
    obtain ⟨fl, hfl⟩ : ∃ fl, gathered tl len = fl := ⟨_, rfl⟩
    have hL : Lay w w2.heap.size w3.heap.size p g h q := by
      have s0 := hF0.size
      have s1 := hF1.size
      have s2 := hF2.size
      have s3 := hG.2.size
      have p1 := hA1.head.lt
      have p2 := hA1.words.lt
      have p3 := hA1.kinds.lt
      have q1 := hR2.head.lt
      exact ⟨by omega, by omega, by omega, by omega, by omega, by omega, by omega, by omega, by omega, by omega, by omega, by omega⟩
    have hfl80 := gathered_le tl len
    have hSt : St w w3 w2.heap.size w3.heap.size p g h q n fv fl [] (.slice none 0 0) [] := by
      rw [← hfl]
      exact ⟨(hA1.far hF2 (by simp) (by simp) (by simp)).far hG.2 (by simp) (by simp) (by simp), ⟨hR2.ok, hR2.head.far hG.2 (by simp), MO.none_ _ _ _ _, MN.Kids.nil _ _ _⟩, hG.1, fun b hb => (MM.own_lt hG.1 b hb).1, ((hF0.trans hF1 (by simp)).trans hF2 (by simp)).trans hG.2 (by simp), Nat.le_refl _⟩
    rw [hfl] at hfl80
    obtain ⟨cf, Af, e, _⟩ : ∃ cf Af, fv = .slice Af fl.length cf ∧ True := by
      obtain ⟨A', c', e, _⟩ := MO.form hSt.few
      exact ⟨c', A', e, trivial⟩
    subst e
    have HT := Lib.hid hfl
    have HL := Lib.hid hL
    have HSt := Lib.hid hSt
    clear hfl hL hSt hG hA1 hR2 hF0 hF1 hF2
    generalize w2.heap.size = B0 at *
    generalize w3.heap.size = base at *
    go_wp2_with (fail)
    go_loopw [49] (fun i wr => ∃ k : Nat, k ≤ fl.length ∧ i = .int .i64 k ∧ ∃ ts v hs, St w wr B0 base p g h q n (.slice Af fl.length cf) fl ts v hs) (fun i _ => fl.length - (intOf i).toNat)
    case atStart => exact ⟨0, Nat.zero_le _, rfl, _, _, _, HSt.out⟩
    case round =>
      clear HSt
      obtain ⟨k, hk, rfl, ts, v, hs, hS⟩ := hrel
      by_cases hlt : k < fl.length
      · obtain ⟨A', c', e, _, _, _, _, hcf⟩ := MO.form hS.few
        cases e
        rcases hcf with ⟨_, h1, _⟩ | ⟨gf, rfl, hgf1, hgf2⟩
        · omega
        obtain ⟨t, ht⟩ : ∃ t, fl[k] = t := ⟨_, rfl⟩
        have hfine := fine_of HZ.out len (t := t) (by rw [HT.out, ← ht]; exact List.getElem_mem hlt)
        have hcl : ∀ (j : Nat) (u : Value), t.cells[j]? = some u → wr.cell? ⟨gf, k * 6 + j, none⟩ = some u := by
          intro j u hu
          have hj : j < 6 := (List.getElem?_eq_some_iff.1 hu).1
          rw [hS.few.cellAt (k * 6 + j) (by omega)]
          exact flat_at fl hlt (by rw [ht]; exact hu)
        obtain ⟨tk, tn, ti, tw, tx, tA, tl2, tc, tzs⟩ := t
        have c0 := hcl 0 _ rfl
        have c1 := hcl 1 _ rfl
        have c2 := hcl 2 _ rfl
        have c3 := hcl 3 _ rfl
        have c4 := hcl 4 _ rfl
        have c5 := hcl 5 _ rfl
        rw [Nat.add_zero] at c0
        simp only at c0 c1 c2 c3 c4 c5
        have hk2 := hfine.hk
        simp only at hk2
        obtain ⟨hk0, hk255⟩ := hk2
        have HFine := Lib.hid hfine
        have hS1 := hS.new ((MM.Far.refl [] wr).alloc (.cells #[.int .u8 tk, .int .i64 tn, .int .i64 ti, .int .u64 tw, .int .u64 tx, .slice tA tl2 tc] 36))
        have hX := MM.Row.new wr 36 [.int .u8 tk, .int .i64 tn, .int .i64 ti, .int .u64 tw, .int .u64 tx, .slice tA tl2 tc]
        have HS := Lib.hid hS
        have hkb : k ≤ 80 := by omega
        clear hcl ht hfine hS
        go_upto_region 11 with (fail)
        obtain ⟨xb, hxb⟩ : ∃ xb, xb = wr.heap.size := ⟨_, rfl⟩
        obtain ⟨W, hW⟩ : ∃ W, W = wr.alloc (.cells #[.int .u8 tk, .int .i64 tn, .int .i64 ti, .int .u64 tw, .int .u64 tx, .slice tA tl2 tc] 36) := ⟨_, rfl⟩
        rw [← hW] at hS1
        rw [← hxb] at hX ⊢
        rw [show wr.alloc (.cells [.int .u8 tk, .int .i64 tn, .int .i64 ti, .int .u64 tw, .int .u64 tx, .slice tA tl2 tc].toArray 36) = W from hW.symm] at hX
        rw [← hW]
        clear hW hxb c0 c1 c2 c3 c4 c5
        have x0 := hX.at (i := 0) rfl
        have x1 := hX.at (i := 1) rfl
        have x2 := hX.at (i := 2) rfl
        have x3 := hX.at (i := 3) rfl
        have x4 := hX.at (i := 4) rfl
        have x5 := hX.at (i := 5) rfl
        obtain ⟨Av, cv, e, hlv, hcv⟩ : ∃ Av cv, v = .slice Av ts.length cv ∧ ts.length ≤ cv ∧ cv ≤ maxLen := by
          obtain ⟨A', c', e, _, h1, h2, _⟩ := MO.form hS1.rr.row
          exact ⟨A', c', e, h1, h2⟩
        subst e
        have q2 := hS1.rr.head.at (i := 2) rfl
        have hN6 : ts.length ≤ 65536 := by
          have := len_le_sz ts
          have := hS1.rr.ok.room
          omega
        have HS1 := Lib.hid hS1
        have HX := Lib.hid hX
        clear hS1 hX hcv
        go_upto_region 12 with (fail)
        obtain ⟨bb, hbb⟩ : ∃ bb : Bool, bb = decide (1 < tk % 4 ∧ 0 < ts.length) := ⟨_, rfl⟩
        have HBB := Lib.hid hbb
        clear hbb
        go_cut [66] (fun s66 wx => s66 = .bool bb ∧ wx = W)
        case first =>
          by_cases g1 : 1 < tk % 4
          · by_cases g2 : 0 < ts.length
            · have hbb : bb = true := by rw [HBB.out]; simp [g1, g2]
              subst hbb
              go_wp2
              go_meet
              exact ⟨rfl, rfl⟩
            · have hbb : bb = false := by rw [HBB.out]; simp [g2]
              subst hbb
              go_wp2
              go_meet
              exact ⟨rfl, rfl⟩
          · have hbb : bb = false := by rw [HBB.out]; simp [g1]
            subst hbb
            go_wp2
            go_meet
            exact ⟨rfl, rfl⟩
        case rest =>
          obtain ⟨rfl, hwc⟩ := hcut
          subst wc
          go_upto_if 66 with (fail)
          go_cut [12] (fun s12 wx => ∃ x : Int, WP.U x ∧ s12 = .int .u64 x ∧ ∃ d, wx = W.drewN d)
          case first =>
            cases hb : bb with
            | false =>
              subst hb
              go_wp2
              go_meet
              exact ⟨_, HFine.out.hw, rfl, 0, rfl⟩
            | true =>
              subst hb
              as_aux_lemma =>
                have hL0 : 0 < ts.length := by
                  have := HBB.out
                  rw [eq_comm, decide_eq_true_iff] at this
                  exact this.2
                obtain ⟨r, hr⟩ : ∃ r, tn.tmod (ts.length : Int) = r := ⟨_, rfl⟩
                have hr1 : -(ts.length : Int) < r ∧ r < ts.length := by
                  rw [← hr]
                  exact tmod_bounds tn ts.length hL0
                obtain ⟨i, hi⟩ : ∃ i : Nat, (r + (ts.length : Int)).tmod (ts.length : Int) = i := by
                  refine ⟨((r + (ts.length : Int)).tmod (ts.length : Int)).toNat, ?_⟩
                  have := tmod_nonneg (r + (ts.length : Int)) ts.length (by omega)
                  omega
                have hi1 : i < ts.length := by
                  have := tmod_bounds (r + (ts.length : Int)) ts.length hL0
                  omega
                obtain ⟨g', c', A', d', e, hg1, hg2, hcell, _⟩ := HS1.out.rr.at hi1
                have e1 : Av = some ⟨g', 0, none⟩ := by injection e
                subst e1
                have hwr : IntKind.i64.wrap (r + (ts.length : Int)) = r + (ts.length : Int) := IntWalk.i64_in _ (by omega)
                have hoff : off ts i ≤ 65536 := by
                  have h1 := sz_take_le ts i
                  have h2 := HS1.out.rr.ok.room
                  have h3 : off ts i = AP.sz (ts.take i) := rfl
                  omega
                have HOf := Lib.hid (fun (d : Nat) => rof_at (off ts i) hoff (W.drewN d))
                have HOU := Lib.hid (WP.ofW_u 1 (off ts i))
                generalize off ts i = o at hcell hoff HOf HOU
                have hi2 : (i : Int) < ts.length := by omega
                have hi3 : (0 : Int) ≤ i := by omega
                clear e hr1
                go_wp2_with (fail)
                go_quiet ((go_at_call 12; exact quiet_d (HOf.out _)))
                go_wp2_with (fail)
                go_meet
                exact ⟨_, HOU.out, rfl, _, rfl⟩
          case rest =>
            obtain ⟨y, hy, rfl, d, hwd⟩ := hcut
            have hS2 : St w wc B0 base p g h q n (.slice (some ⟨gf, 0, none⟩) fl.length cf) fl ts (.slice Av ts.length cv) hs := by
              rw [hwd]; exact HS1.out.new ((MM.Far.refl [] W).drewN d)
            have hX2 : MM.Row wc xb 36 [.int .u8 tk, .int .i64 tn, .int .i64 ti, .int .u64 tw, .int .u64 tx, .slice tA tl2 tc] := by
              rw [hwd]; exact HX.out.drewN d
            clear hwd HS1 HX x0 x1 x2 x3 x4 x5 q2 HBB
            have x0 := hX2.at (i := 0) rfl
            have x1 := hX2.at (i := 1) rfl
            have x2 := hX2.at (i := 2) rfl
            have x4 := hX2.at (i := 4) rfl
            have x5 := hX2.at (i := 5) rfl
            have hXd0 := hX2.drew
            have HXD0 := Lib.hid hXd0
            clear hXd0
            have HS2 := Lib.hid hS2
            have HX2 := Lib.hid hX2
            have HY := Lib.hid hy
            clear hS2 hX2 hy
            go_upto_block 2 with (fail)
            go_cut [13, 14, 15, 16, 17, 100, 101, 129] (fun s13 _ _ _ _ _ _ _ wx => s13 = .bool true ∧ ∃ ts' v' hs', St w wx B0 base p g h q n (.slice (some ⟨gf, 0, none⟩) fl.length cf) fl ts' v' hs' ∧ MM.Row wx xb 36 [.int .u8 tk, .int .i64 tn, .int .i64 ti, .int .u64 tw, .int .u64 tx, .slice tA tl2 tc])
            case first =>
              by_cases k0 : tk % 4 = 0
              · have hlen := HFine.out.len
                have hle := HFine.out.le
                simp only at hlen hle
                have HA0 := Lib.hid (alloc_to HS2.out.ar tn tA tl2 tc tzs _ _ _ hlen (by omega) HFine.out.u rfl rfl rfl (HFine.out.src wc [p, g, h] HS2.out.far (fun b hb => by
                  have h1 := HL.out.wp; have h2 := HL.out.wg; have h3 := HL.out.wh
                  simp at hb; omega)))
                as_aux_lemma =>
                  have HLen := Lib.hid hlen
                  clear hlen
                  go_wp2_with (first
                    | (go_at_call 13
                       refine HA0.out.mono ?_
                       rintro e w5 ⟨rfl, hA5, hF5⟩
                       have HA5 := Lib.hid hA5
                       have HX5 := Lib.hid (x_a HS2.out.ar HX2.out hF5)
                       have y1 := HX5.out.at (i := 1) rfl
                       have y5 := HX5.out.at (i := 5) rfl
                       have HR5 := Lib.hid (rr_a HL.out HS2.out.rr hF5)
                       have HF5 := Lib.hid (far_a HL.out HS2.out.far hF5)
                       have HR0 := Lib.hid (ralloc_len HR5.out (by have := hF5.size; have := HS2.out.size; omega) tn tA tl2 tc tzs HLen.out (by omega) HFine.out.u HFine.out.nil (HFine.out.src w5 [] HF5.out (fun b hb => by cases hb)))
                       clear hA5)
                    | (go_at_call 14
                       refine HR0.out.mono ?_
                       rintro e w6 ⟨rfl, v6, hs6, hR6, hFr6⟩
                       have HR6 := Lib.hid hR6
                       clear hR6))
                  go_meet
                  refine ⟨by simp, _, _, _, St.both HL.out HS2.out HA5.out hF5 HR6.out hFr6, x_r HR5.out HX5.out hFr6⟩
              · by_cases k3 : tk % 4 = 3
                · go_wp2_with (fail)
                  go_meet
                  exact ⟨rfl, _, _, _, HS2.out, HX2.out⟩
                · have k12 : tk % 4 = 1 ∨ tk % 4 = 2 := by omega
                  clear k0 k3
                  have HSd := Lib.hid (HS2.out.new (MM.Far.refl [] wc).drew)
                  have HXd := HXD0
                  rcases k12 with k1 | k1
                  all_goals
                    as_aux_lemma =>
                      go_wp2_with (fail)
                      go_region_held3 (fun w' => w'.cell? ⟨xb, 2, none⟩ = some (.int .i64 ti) ∧ w'.cell? ⟨xb, 4, none⟩ = some (.int .u64 tx)) (go_keep) (first
                        | (go_at_call 15
                           (with_reducible refine (set_any HSd.out.ar y HY.out ti tx HFine.out.hx).mono ?_)
                           rintro e w5 ⟨rfl, hA5, hF5⟩
                           have HA5 := Lib.hid hA5
                           have HF5 := Lib.hid (hF5.mono (S' := [p, g, h]) (by simp))
                           have HX5 := Lib.hid (x_a HSd.out.ar HXd.out HF5.out)
                           have y2 := HX5.out.at (i := 2) rfl
                           have y4 := HX5.out.at (i := 4) rfl
                           have HR5 := Lib.hid (rr_a HL.out HSd.out.rr HF5.out)
                           clear hA5 hF5)
                        | (go_at_call 16
                           (with_reducible refine (rset_any HR5.out y HY.out ti tx HFine.out.hx).mono ?_)
                           rintro e w6 ⟨rfl, hR6, hF6⟩
                           have HEnd := Lib.hid (And.intro (St.both HL.out HSd.out HA5.out HF5.out hR6 hF6) (x_r HR5.out HX5.out hF6))
                           have z2 := HEnd.out.2.at (i := 2) rfl
                           have z4 := HEnd.out.2.at (i := 4) rfl
                           clear hR6 hF6)
                        | (go_at_call 16
                           (with_reducible refine (rset_any HSd.out.rr y HY.out ti tx HFine.out.hx).mono ?_)
                           rintro e w5 ⟨rfl, hR5, hF5⟩
                           have HR5 := Lib.hid hR5
                           have HF5 := Lib.hid hF5
                           have HX5 := Lib.hid (x_r HSd.out.rr HXd.out HF5.out)
                           have y2 := HX5.out.at (i := 2) rfl
                           have y4 := HX5.out.at (i := 4) rfl
                           have HA5 := Lib.hid (ar_r HL.out HSd.out.ar HF5.out)
                           clear hR5 hF5)
                        | (go_at_call 15
                           (with_reducible refine (set_any HA5.out y HY.out ti tx HFine.out.hx).mono ?_)
                           rintro e w6 ⟨rfl, hA6, hF6⟩
                           have HEnd := Lib.hid (And.intro (St.both' HL.out HSd.out HR5.out HF5.out hA6 (hF6.mono (S' := [p, g, h]) (by simp))) (x_a HA5.out HX5.out (hF6.mono (S' := [p, g, h]) (by simp))))
                           have z2 := HEnd.out.2.at (i := 2) rfl
                           have z4 := HEnd.out.2.at (i := 4) rfl
                           clear hA6 hF6))
                      all_goals
                        go_wp2_with (fail)
                        go_meet
                        exact ⟨by simp, _, _, _, HEnd.out.1, HEnd.out.2⟩
            case rest =>
              clear HS2 HX2 x0 x1 x2 x4 x5
              obtain ⟨rfl, ts2, v2, hs2, hS3, hX3⟩ := hcut
              as_aux_lemma =>
                have x2 := hX3.at (i := 2) rfl
                have HA := Lib.hid (fun (d : Nat) => (hS3.new ((MM.Far.refl [] wc).drewN d)).ar)
                have HR := Lib.hid (fun (d : Nat) => (hS3.new ((MM.Far.refl [] wc).drewN d)).rr)
                have r0 := hS3.rr.head.at (i := 0) rfl
                have r1 := hS3.rr.head.at (i := 1) rfl
                have HS3 := Lib.hid hS3
                have HG := Lib.hid (get_any hS3.ar y HY.out ti)
                have HG2 := Lib.hid (rget_any hS3.rr y HY.out ti)
                clear hS3 hX3
                go_wp2_with (first | (go_at_call 17; refine HG.out.mono ?_; rintro e w' ⟨rfl, rfl⟩) | (go_at_call 18; refine HG2.out.mono ?_; rintro e w' ⟨rfl, rfl⟩))
                go_quiet ((first
                  | (go_at_call 19; exact quiet_d (kind_any (HA.out _) y HY.out))
                  | (go_at_call 20; exact quiet_d (rkind_any (HR.out _) y HY.out))
                  | (go_at_call 21; exact quiet_d (len_any (HA.out _) y HY.out))
                  | (go_at_call 22; exact quiet_d (rlen_any (HR.out _) y HY.out))
                  | (go_at_call 23; exact quiet_d (used_any (HA.out _)))
                  | (go_at_call 24; exact quiet_d (size_any (HA.out _)))))
                go_wp2_with (fail)
                go_roundw
                case rel => exact ⟨k + 1, by omega, by go_num, _, _, _, HS3.out.new ((MM.Far.refl [] wc).drewN _)⟩
                case measure => simp [intOf]; omega
      · have hB := hS.far.below_nil
        clear hS
        go_wp2_with (fail)
        go_ret
        exact ⟨rfl, hB⟩
end AL
end Go.Proofs.Ytfjijcepggmigaa
