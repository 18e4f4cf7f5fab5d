/-
  The walk of ArenaKeeps: things have the words that they were made with, and what is set of one is set of no other one. Condition: the arguments are numbers that fit their kind.
-/
import Derived.Test.YtfjijcepggmigaaArenaKeep
import Derived.Deep.QuietTactic
import Derived.BigQuiet
import Derived.Deep.DeepCutAuto
namespace Go.Proofs.Ytfjijcepggmigaa
open Go.RowKit
namespace AL
open AW
set_option maxRecDepth 100000 in
set_option maxHeartbeats 4000000 in
theorem keeps (a : Option Addr) (len cap : Nat) (zss : List (List Int)) (which at_ x : Int) (w : World) (hz : MR.Intss .u64 w a len cap zss) (hw : (Lit.int .u8 which).wf = true) (ha : (Lit.int .u8 at_).wf = true) (hx : (Lit.int .u64 x).wf = true) :
    Calls Try.prog 4 #[.slice a len cap, .int .u8 which, .int .u8 at_, .int .u64 x] w fun e w' => e = .returned (.bool true) ∧ Below w.heap.size w w' := by
  have hle := hz.le
  have hmax := hz.max
  unfold maxLen at hmax
  obtain ⟨hw0, hw1⟩ := u8_of hw
  obtain ⟨ha0, ha1⟩ := u8_of ha
  have HX := Lib.hid (u_of hx)
  have HZ := Lib.hid hz
  have HL := Lib.hid hz.len_
  have hnil := hz.nil
  clear hz hw ha hx
  go_enter Try.func4, Try.ntmps4
  go_wp2_with (fail)
  refine (shown_any w).mono ?_
  rintro e w0 ⟨rfl, hF0⟩
  go_wp2_with (fail)
  refine (new_int w0 300 (by omega) (by omega)).mono ?_
  rintro e w1 ⟨p, g, h, rfl, hp, hgw, hh, hA1, hF1⟩
  have HA1 := Lib.hid hA1
  clear hA1
  have s0 := hF0.size
  have s1 := hF1.size
  go_upto_region 8 with (fail)
  obtain ⟨m, hm⟩ : ∃ m, m = min len 20 := ⟨_, rfl⟩
  have hm1 : m ≤ len := by omega
  have hm2 : m ≤ 20 := by omega
  go_cut [44, 45, 46] (fun s44 s45 s46 wx => s44 = .slice a m cap ∧ s45 = .int .i64 m ∧ s46 = .int .i64 0 ∧ wx = w1)
  case first =>
    cases a with
    | none =>
      obtain rfl : cap = 0 := hnil rfl
      obtain rfl : len = 0 := by omega
      obtain rfl : m = 0 := by omega
      clear hm
      go_wp2
      go_meet
      exact ⟨rfl, rfl, rfl, rfl⟩
    | some ad =>
      by_cases h20 : len ≤ 20
      · obtain rfl : m = len := by omega
        clear hm
        go_wp2
        go_meet
        exact ⟨rfl, rfl, rfl, rfl⟩
      · obtain rfl : m = 20 := by omega
        clear hm
        go_wp2
        go_meet
        exact ⟨rfl, rfl, rfl, rfl⟩
  case rest =>
    obtain ⟨rfl, rfl, rfl, hwc⟩ := hcut
    subst wc
    clear hm hnil
    have hF01 : MM.Far [] w w1 := hF0.trans hF1 (by simp)
    obtain ⟨B, hB⟩ : ∃ B, B = w1.heap.size := ⟨_, rfl⟩
    have hBw : w.heap.size ≤ B := by omega
    have hp1 := HA1.out.head.lt
    have hg1 := HA1.out.words.lt
    have hh1 := HA1.out.kinds.lt
    rw [← hB] at hp1 hg1 hh1
    have hB1 : B ≤ w1.heap.size := by omega
    clear hB
    go_wp2_with (fail)
    go_loopw [12, 13, 14, 46] (fun pv wv u i wr => ∃ ts hs, ts.length ≤ m ∧ i = .int .i64 (ts.length : Nat) ∧ u = .int .i64 (AP.sz ts : Nat) ∧ Inv wr B p g h pv wv ts hs ∧ B ≤ wr.heap.size ∧ MM.Far [] w wr) (fun _ _ _ i _ => m - (intOf i).toNat)
    case atStart =>
      refine ⟨[], [], Nat.zero_le _, rfl, rfl, ⟨HA1.out, fun i hi => by simp at hi, MO.none_ _ _ _ _, MO.none_ _ _ _ _, MN.Kids.nil _ _ _, fun b hb => by simp [Value.ownBlock] at hb⟩, hB1, hF01⟩
    case round =>
      obtain ⟨ts, hs, hk, rfl, rfl, hI, hBr, hFw⟩ := hrel
      have hsz : AP.sz ts ≤ 9 * ts.length := sz_bound 8 ts (fun i hi => (hI.kind i hi).2)
      by_cases hlt : ts.length < m
      · have hkl : ts.length < zss.length := by rw [HL.out]; omega
        obtain ⟨b, off, A, l, c, rfl, hcell0, hI0⟩ := HZ.out.elems ts.length _ (List.getElem?_eq_getElem hkl)
        have hcell : wr.cell? ⟨b, off + ts.length, none⟩ = some (.slice A l c) := by
          rw [hFw.cell (MR.cell_lt hcell0) (by simp)]; exact hcell0
        have hIw := hI0.far hFw
        have HOld := Lib.hid hI0
        generalize zss[ts.length] = zs at hIw HOld
        clear hcell0 hI0 hkl
        have hIle := hIw.le
        have hImx := hIw.max
        unfold maxLen at hImx
        have HIl := Lib.hid hIw.len_
        have hInil := hIw.nil
        have HIw := Lib.hid hIw
        have HI := Lib.hid hI
        clear hIw hI
        go_upto_region 11 with (fail)
        obtain ⟨m8, hm8⟩ : ∃ m8, m8 = min l 8 := ⟨_, rfl⟩
        have hm81 : m8 ≤ l := by omega
        have hm82 : m8 ≤ 8 := by omega
        have HM8 := Lib.hid hm8
        clear hm8
        go_cut [17] (fun s17 wx => s17 = .slice A m8 c ∧ wx = wr)
        case first =>
          have hm8 := HM8.out
          cases A with
          | none =>
            obtain rfl : c = 0 := hInil rfl
            obtain rfl : l = 0 := by omega
            obtain rfl : m8 = 0 := by omega
            clear hm8
            go_wp2
            go_meet
            exact ⟨rfl, rfl⟩
          | some ad =>
            by_cases h20 : l ≤ 8
            · obtain rfl : m8 = l := by omega
              clear hm8
              go_wp2
              go_meet
              exact ⟨rfl, rfl⟩
            · obtain rfl : m8 = 8 := by omega
              clear hm8
              go_wp2
              go_meet
              exact ⟨rfl, rfl⟩
        case rest =>
          obtain ⟨rfl, hwx⟩ := hcut
          subst wc
          have hl8 : (zs.take 8).length = m8 := by rw [List.length_take, HIl.out, HM8.out]; omega
          have hu8 : ∀ y ∈ zs.take 8, WP.U y := fun y hy => u_of (HIw.out.wf y (List.mem_of_mem_take hy))
          have hsrc := take_old (S := [p, g, h]) HOld.out hFw (by simp; omega) 8
          have HSrc := Lib.hid (fun (w2 : World) (hF : MM.Far [] w w2) => take_old (S := []) HOld.out hF (by simp) 8)
          generalize zs.take 8 = L at hl8 hu8 hsrc HSrc
          have hAE : allE 300 ts ((ts.length : Int) % 9 + 1) m8 = 0 := by unfold allE; rw [if_neg (by omega), if_neg (by omega)]
          have HA := Lib.hid (alloc_to HI.out.ar ((ts.length : Int) % 9 + 1) A m8 c L (WP.ofW 1 (AP.sz ts)) 0 (ts ++ [⟨(ts.length : Int) % 9 + 1, L⟩]) hl8 (by omega) hu8 (by unfold allW; rw [if_pos hAE]) hAE (by unfold allT; rw [hl8, if_pos hAE]) hsrc)
          have HN : Hid (A = none → c = 0 ∧ m8 = 0) := fun hA0 => by
            have := hInil hA0
            have := HIw.out.le
            omega
          have HL8 := Lib.hid hl8
          have HP := Lib.hid (MM.own_lt HI.out.places)
          have HH := Lib.hid (MM.own_lt HI.out.heads)
          have HZ9 := Lib.hid (AP.sz_snoc ts ⟨(ts.length : Int) % 9 + 1, L⟩)
          clear hAE hsrc hl8 hInil
          go_wp2_with (fail)
          refine HA.out.mono ?_
          rintro e wA ⟨rfl, hAA, hFA⟩
          have HAA := Lib.hid hAA
          clear hAA
          have sA := hFA.size
          have hFwA : MM.Far [] w wA := hFw.trans hFA (by simp; omega)
          have HpA := Lib.hid (MM.own_far HI.out.places hFA (fun b hb1 hm => by have := HP.out b hb1; simp at hm; omega))
          have HU := Lib.hid (used_to HAA.out ((AP.sz ts : Int) + ((m8 : Int) + 1)) (by have h9 : AP.sz (ts ++ [⟨(ts.length : Int) % 9 + 1, L⟩]) = AP.sz ts + L.length + 1 := HZ9.out; have := HL8.out; omega))
          go_wp2_with (first
            | (go_at_call 23; refine HU.out.mono ?_; rintro e w' ⟨rfl, rfl⟩)
            | (refine app ?_ (.tmp 78) (.tmp 80) ?_ B _ ts.length (pls ts) ?_ (some ⟨wA.heap.size, 0, none⟩) 1 1 [WP.ofW 1 (AP.sz ts)] ?_ (HpA.out.alloc _) rfl (fun h => by cases h) [] (MM.Src.row (MM.Row.new _ _ [.int .u64 (WP.ofW 1 (AP.sz ts))]) (by simp) _ (fun j u hu => hu)) (by omega) (by simp; omega) ?_
               · rfl
               · rfl
               · rfl
               · rfl
               intro pv1 wC hpv1 hgC hatC
               have F2 := grown_far hgC
               have sC := F2.size
               have hFwC : MM.Far [] w wC := hFwA.trans F2 (fun b hb1 _ => by have := HP.out b (by simpa using hb1); omega))
            | (refine app ?_ (.tmp 83) (.tmp 84) ?_ B (.slice (some ⟨wC.heap.size, 0, none⟩) 0 0) 0 [] ?_ A m8 c L ?_ (empty_row _ _ (by omega)) HL8.out HN.out [] (HSrc.out _ (hFwC.alloc _)) (by omega) (by simp; omega) ?_
               · rfl
               · rfl
               · rfl
               · rfl
               intro v2 wE hv2 hgE hatE
               rw [Nat.zero_add, List.nil_append] at hv2
               have F3 : MM.Far [wC.heap.size] wC wE := ((MM.Far.refl _ wC).alloc _).trans (MM.Far.of_grown (S := [wC.heap.size]) hgE (by intro b hb1 _; simp [Value.ownBlock] at hb1; simp [hb1])) (fun b hb _ => hb)
               have sE := F3.size
               have hmid := mid HI.out ⟨hp1, hg1, hh1⟩ hFA F2 F3
               have HM := Lib.hid hmid
               clear hmid
               obtain ⟨A2, c2, rfl, hx1, hx2, hx3, hx4, hx5⟩ := MO.form hv2
               clear hx1 hx2 hx3 hx4 hx5)
            | (refine MO.wpList_append _ ?_ (.tmp 82) (.tmp 86) 51 ?_ B 34 (.slice none 0 0) 1 24 heads_slice head_info rfl (by omega) _ ts.length hs ?_ (HM.out.1.alloc _) (some ⟨wE.heap.size, 0, none⟩) 1 1 [.slice A2 m8 c2] ?_ rfl (fun h => by cases h) [] (MM.Src.row (MM.Row.new _ _ [.slice A2 m8 c2]) (by simp) _ (fun j u hu => hu)) ?_ (by simp only [maxLen]; omega) (by omega) (by simp; omega) ?_
               · rfl
               · rfl
               · rfl
               · rfl
               · intro u hu; have := List.mem_singleton.1 hu; subst this; rfl
               intro wv1 wG hwv1 hgG hatG
               have F4 := grown_far hgG))
          go_roundw
          case rel =>
            refine ⟨ts ++ [⟨(ts.length : Int) % 9 + 1, L⟩], hs ++ [.slice A2 m8 c2], by simp; omega, by simp, ?_, step HI.out ⟨hp1, hg1, hh1⟩ (by have := HL8.out; omega) HL8.out.symm HAA.out hFA F2 F3 F4 hpv1 ?_ hv2 ?_ hwv1, ?_, ?_⟩
            · have h9 : AP.sz (ts ++ [⟨(ts.length : Int) % 9 + 1, L⟩]) = AP.sz ts + L.length + 1 := HZ9.out
              have := HL8.out
              rw [h9]
              rw [show ((AP.sz ts + L.length + 1 : Nat) : Int) = (AP.sz ts : Int) + ((m8 : Int) + 1) from by omega]
            · rcases hatC with e | e
              · exact .inl e
              · exact .inr ⟨_, e, by simp⟩
            · intro b1 hb1
              rcases hatE with e | e
              · have e2 : (Value.slice A2 m8 c2).ownBlock = some wC.heap.size := e
                rw [e2] at hb1
                have : wC.heap.size = b1 := by simpa using hb1
                omega
              · rw [e] at hb1
                have : wC.heap.size + 1 = b1 := by simpa using hb1
                omega
            · have := F4.size; omega
            · exact (hFwC.trans F3 (fun b1 hb1 _ => by simp at hb1; omega)).trans F4 (fun b1 hb1 _ => by have := HH.out b1 (by simpa using hb1); omega)
          case measure => simp [intOf]; omega
      · obtain ⟨Ap, cp, e1, _, _, _, _, hcp⟩ := MO.form hI.places
        subst u12
        obtain ⟨Ah, ch, e2, _, _, _, _, hch⟩ := MO.form hI.heads
        subst u13
        have hn20 : ts.length ≤ 20 := by omega
        have HI := Lib.hid hI
        clear hI
        go_upto_if 91 with (fail)
        clear hlt
        go_cut [20] (fun s20 wx => Kept w wx B p g h (.slice Ap ts.length cp) (.slice Ah ts.length ch) ts.length hs)
        case first =>
          by_cases h0 : ts.length = 0
          · have h0' : ¬ 0 < ts.length := by omega
            go_wp2
            go_meet
            exact ⟨ts, rfl, HI.out, hFw⟩
          · have h0' : 0 < ts.length := by omega
            have hIx := HI.out
            rcases hcp with ⟨_, h1, _⟩ | ⟨gp, rfl, hgp1, hgp2⟩
            · omega
            rcases hch with ⟨_, h1, _⟩ | ⟨gh, rfl, hgh1, hgh2⟩
            · omega
            obtain ⟨k0, hk0⟩ : ∃ k0 : Nat, which % (ts.length : Int) = k0 := ⟨(which % (ts.length : Int)).toNat, by have := Int.emod_nonneg which (show (ts.length : Int) ≠ 0 by omega); omega⟩
            have hk1 : k0 < ts.length := by have := Int.emod_lt_of_pos which (show (0 : Int) < ts.length by omega); omega
            obtain ⟨i0, hi0⟩ : ∃ i0 : Nat, at_ % 9 = i0 := ⟨(at_ % 9).toNat, by omega⟩
            have hcellP := place_at hIx hk1
            obtain ⟨Ad, cd, hhd, hcellH, hkid, hcd⟩ := head_at hIx hk1
            obtain ⟨q, hq⟩ : ∃ q, pl ts k0 = q := ⟨_, rfl⟩
            obtain ⟨L0, hL0⟩ : ∃ L0, (AP.th ts k0).l.length = L0 := ⟨_, rfl⟩
            by_cases hj : i0 < (AP.th ts k0).l.length
            · obtain ⟨gq, rfl, hgq1, hgq2⟩ := hcd (by omega)
              have HS := Lib.hid (set_in hIx.ar hk1 HX.out hj)
              have HFx := Lib.hid (fun (w2 : World) (hF2 : MM.Far [g] wr w2) => kid_cell (k0 := k0) (i0 := i0) (gh := gh) hkid rfl hj hF2 hg1 hgh2 hgh1 hcellH)
              have HE := Lib.hid (fun (w2 : World) (hA2 : Ar w2 p g h 300 (AP.put ts k0 i0 x)) (hF2 : MM.Far [g] wr w2) => inv_put hIx ⟨hp1, hg1, hh1⟩ hA2 hF2 hk1 hhd rfl)
              rw [hq] at HS hcellP
              rw [hL0] at hcellH HFx hj
              clear hIx hkid hq hL0 hhd hcd
              go_wp2_with (first | (go_at_call 15; refine HS.out.mono ?_; rintro e w2 ⟨rfl, hA2, hF2⟩; obtain ⟨hc1, ⟨o2, hc2⟩, hc3⟩ := HFx.out w2 hF2; have HA2 := Lib.hid hA2; clear hA2))
              go_meet
              refine ⟨_, AP.len_put _ _ _ _, HE.out w2 HA2.out hF2, (hFw.trans hF2 (by simp; omega)).setCell (by simp; omega) _⟩
            · have HS := Lib.hid (set_out hIx.ar hk1 HX.out hj)
              have HE := Lib.hid (fun (w2 : World) (hA2 : Ar w2 p g h 300 ts) (hF2 : MM.Far [g] wr w2) => inv_ar hIx ⟨hp1, hg1, hh1⟩ hA2 hF2)
              have HFx := Lib.hid (fun (w2 : World) (hF2 : MM.Far [g] wr w2) => show w2.cell? ⟨gh, k0, none⟩ = some (.slice Ad (AP.th ts k0).l.length cd) from by
                rw [hF2.cell (p := ⟨gh, k0, none⟩) hgh2 (by simp; omega)]; exact hcellH)
              rw [hq] at HS hcellP
              rw [hL0] at hcellH HFx hj
              clear hIx hkid hq hL0 hhd hcd
              go_wp2_with (first | (go_at_call 15; refine HS.out.mono ?_; rintro e w2 ⟨rfl, hA2, hF2⟩; have hc1 := HFx.out w2 hF2; have HA2 := Lib.hid hA2; clear hA2))
              go_meet
              exact ⟨ts, rfl, HE.out w2 HA2.out hF2, hFw.trans hF2 (by simp; omega)⟩
        case rest =>
          clear HI hFw
          generalize hN : ts.length = N at *
          clear hN hsz
          go_wp2_with (fail)
          go_loopw [129] (fun i wr2 => ∃ k : Nat, k ≤ N ∧ i = .int .i64 k ∧ Kept w wr2 B p g h (.slice Ap N cp) (.slice Ah N ch) N hs) (fun i _ => N - (intOf i).toNat)
          case atStart => exact ⟨0, Nat.zero_le _, rfl, hcut⟩
          case round =>
            clear hcut
            obtain ⟨k, hk, rfl, tz, hlz, hIz, hFz⟩ := hrel
            by_cases hlt : k < N
            · rcases hcp with ⟨_, h1, _⟩ | ⟨gp, rfl, hgp1, hgp2⟩
              · omega
              rcases hch with ⟨_, h1, _⟩ | ⟨gh, rfl, hgh1, hgh2⟩
              · omega
              subst N
              have hcellP := place_at hIz hlt
              obtain ⟨Ad, cd, hhd, hcellH, hkid, hcd⟩ := head_at hIz hlt
              have hkd := (hIz.kind k hlt).1
              have hk8 := (hIz.kind k hlt).2
              have hg := th_get hIz.ar.ok hlt 0
              have HK := Lib.hid (fun (d : Nat) => kind_to (hIz.ar.far ((MM.Far.refl [] wr).drewN d) (by simp) (by simp) (by simp)) (pl tz k) ((k : Int) % 9 + 1) (pl_u _ _) (by rw [hg.2.2.1, hkd]))
              have HLn := Lib.hid (fun (d : Nat) => len_to (hIz.ar.far ((MM.Far.refl [] wr).drewN d) (by simp) (by simp) (by simp)) (pl tz k) ((AP.th tz k).l.length : Int) (pl_u _ _) hg.2.2.2.1)
              have HG := Lib.hid (fun (j : Nat) (hj : j < (AP.th tz k).l.length) (d : Nat) => get_in (hIz.ar.far ((MM.Far.refl [] wr).drewN d) (by simp) (by simp) (by simp)) hlt hj)
              have HE := Lib.hid (fun (d : Nat) => hIz.far ((MM.Far.refl [] wr).drewN d) (by simp))
              obtain ⟨q, hq⟩ : ∃ q, pl tz k = q := ⟨_, rfl⟩
              obtain ⟨l0, hl0⟩ : ∃ l0, (AP.th tz k).l = l0 := ⟨_, rfl⟩
              rw [hq] at hcellP
              rw [hl0] at hcellH hkid hcd hk8
              simp only [hq, hl0] at HG HK HLn
              have hIl := hkid.1
              have HKid := Lib.hid hkid
              have HFz := Lib.hid hFz
              clear hkd hg hq hl0 hhd hkid hIz hFz hIl
              go_wp2_with (fail)
              go_quiet ((first | (go_at_call 19; exact quiet_d (HK.out _)) | (go_at_call 21; exact quiet_d (HLn.out _))))
              go_wp2_with (fail)
              go_loopw [157] (fun i w3 => ∃ j : Nat, j ≤ l0.length ∧ i = .int .i64 j ∧ w3 = wr.drewN nq) (fun i _ => l0.length - (intOf i).toNat)
              case atStart => exact ⟨0, Nat.zero_le _, rfl, rfl⟩
              case round =>
                obtain ⟨j, hj, rfl, hw3⟩ := hrel
                subst hw3
                by_cases hjl : j < l0.length
                · obtain ⟨gq, rfl, hgq1, hgq2⟩ := hcd (by omega)
                  have hcq : wr.cell? ⟨gq, j, none⟩ = some (.int .u64 (l0.getD j 0)) := by
                    rw [HKid.out.cellAt j (by omega)]
                    unfold U64s
                    rw [List.getElem?_map, List.getElem?_eq_getElem hjl]; simp [List.getD, List.getElem?_eq_getElem hjl]
                  have HGj := Lib.hid (HG.out j hjl nq)
                  generalize l0.getD j 0 = y at hcq HGj
                  go_wp2_with (first | (go_at_call 17; refine HGj.out.mono ?_; rintro e w' ⟨rfl, rfl⟩))
                  go_roundw
                  case rel => exact ⟨j + 1, by omega, by go_num, trivial⟩
                  case measure => simp [intOf]; omega
                · have hjz : ¬ j < l0.length := hjl
                  go_wp2_with (fail)
                  go_roundw
                  case rel => exact ⟨k + 1, by omega, by go_num, tz, rfl, HE.out nq, HFz.out.drewN nq⟩
                  case measure => simp [intOf]; omega
            · have hFz' := hFz
              clear hIz hFz
              go_wp2_with (fail)
              go_ret
              exact ⟨rfl, hFz'.below_nil⟩
end AL
end Go.Proofs.Ytfjijcepggmigaa
