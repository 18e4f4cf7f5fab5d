/-
  The walk of MoveSame: what is told of what is reached is told as before. Condition: the arguments' readings.
-/
import Derived.Test.YtcfepiihjbbnaaaMoveSame
import Derived.Test.YtcfepiihjbbnaaaMoveAlike
import Derived.Test.YtcfepiihjbbnaaaMoveWords
namespace Go.Proofs.Ytcfepiihjbbnaaa
open Go.RowKit Go.Maps
namespace ML
open AW MW AL AP
theorem slice_one (g o m c : Nat) (W : World) : (Instr.slice 23 (.slice (some ⟨g, o, none⟩) (m + 1) c) (some (.int .i64 1)) none none).run Try.prog W = .ok (.slice (if c = 1 then some ⟨g, o, none⟩ else some ⟨g, o + 1, none⟩) m (c - 1)) W := by
  have hs : (sizeOf (Try.prog.elem 23)).run Try.prog W = .ok 1 W := by kernel_rfl
  rw [run_slice_l (P := Try.prog) W 23 (some ⟨g, o, none⟩) (m + 1) c (by kernel_rfl) .i64 1 (by omega) (by omega), hs]
  simp [Result.andThen, sliced, Addr.add]
/-- The queues at the head of a round: their first words. -/
theorem que_head {w : World} {base : Nat} {v : Value} {x : Int} {l : List Int} (h : MQ.Que w base 42 v (U64s (x :: l))) : ∃ g o c A, v = .slice (some ⟨g, o, none⟩) (l.length + 1) c ∧ l.length + 1 ≤ c ∧ c ≤ maxLen ∧ w.cell? ⟨g, o, none⟩ = some (.int .u64 x) ∧
    (∀ W : World, (Instr.slice 23 (.slice (some ⟨g, o, none⟩) (l.length + 1) c) (some (.int .i64 1)) none none).run Try.prog W = .ok (.slice A l.length (c - 1)) W) ∧ MQ.Que w base 42 (.slice A l.length (c - 1)) (U64s l) ∧ ∀ b, (Value.slice A l.length (c - 1)).ownBlock = some b → b = g := by
  have h0 : U64s (x :: l) = .int .u64 x :: U64s l := rfl
  rw [h0] at h
  obtain ⟨g, o, c, rfl, h1, h2, h3, h4⟩ := h.head
  have hl : (U64s l).length = l.length := by simp [U64s]
  rw [hl] at h1 h4
  refine ⟨g, o, c, _, by rw [hl], h1, h2, h3, fun W => slice_one g o l.length c W, h4, fun b hb => ?_⟩
  split at hb <;> simpa [Value.ownBlock, eq_comm] using hb
theorem len_le_wts (ts : List Th) (V : List Nat) : V.length ≤ MP.wts ts V := by
  induction V with
  | nil => simp [MP.wts]
  | cons a V ih => rw [MP.wts_cons, List.length_cons]; unfold MP.wt; omega
theorem que_len {w : World} {base : Nat} {e : TypeId} {v : Value} {xs : List Value} (h : MQ.Que w base e v xs) : lenQ v = xs.length := by
  rcases h with ⟨rfl, rfl⟩ | ⟨g, o, cap, cur, rfl, _⟩
  · rfl
  · rfl
theorem que_nil {w : World} {base : Nat} {v : Value} (h : MQ.Que w base 42 v (U64s [])) : ∃ A c, v = .slice A 0 c := by
  rcases h with ⟨rfl, _⟩ | ⟨g, o, cap, cur, rfl, _⟩
  · exact ⟨_, _, rfl⟩
  · exact ⟨_, _, rfl⟩
set_option maxRecDepth 100000 in
set_option maxHeartbeats 8000000 in
theorem same (w : World) (size : Int) (a : Option Addr) (len cap : Nat) (tl : List Tg) (a2 : Option Addr) (len2 cap2 : Nat) (roots : List Int) (hz : Hp w size a len cap tl a2 len2 cap2 roots) :
    Calls Try.prog 4 #[.agg #[.int .i64 size, .slice a len cap, .slice a2 len2 cap2]] w fun e w' => e = .returned (.bool true) ∧ Below w.heap.size w w' := by
  have hmm := @run_makeMap Try.prog
  have HZ := Lib.hid hz
  clear hz
  go_enter Try.func4, Try.ntmps4
  go_wp2_with (fail)
  have hX := MM.Row.new w 25 [.int .i64 size, .slice a len cap, .slice a2 len2 cap2]
  have hF := (MM.Far.refl [] w).alloc (.cells #[.int .i64 size, .slice a len cap, .slice a2 len2 cap2] 25)
  refine (MW.shown_any _).mono ?_
  rintro e w0 ⟨rfl, hF0⟩
  have hX0 := hX.far hF0 (by simp)
  have hF0w := hF.trans hF0 (by simp)
  have x0 := hX0.at (i := 0) rfl
  have x1 := hX0.at (i := 1) rfl
  have x2 := hX0.at (i := 2) rfl
  clear hX hF hF0
  go_wp2_with (fail)
  refine (build_any w0 size a len cap tl a2 len2 cap2 roots (HZ.out.far hF0w) _ rfl).mono ?_
  rintro e w1 ⟨base, p, g, h, q, n, ts, v, hs, rfl, hn1, hT⟩
  clear x0 x1 x2 hX0
  have hF1w := hF0w.trans hT.far (by simp)
  have hR := cut20 HZ.out.roots hF1w
  have hnil : a2 = none → cap2 = 0 ∧ min len2 20 = 0 := fun e => by
    have h1 := HZ.out.roots.nil e
    have h2 := HZ.out.roots.le
    omega
  generalize min len2 20 = m at hR hnil ⊢
  generalize roots.take 20 = R at hR
  have hA := hT.ar
  have hm20 := hR.le
  have HNil := Lib.hid hnil
  have HA := Lib.hid (fun (w' : World) (f : MM.Far [] w1 w') => hA.far f (by simp) (by simp) (by simp))
  have HRt := Lib.hid (fun (w' : World) (f : MM.Far [] w1 w') => hR.far f)
  have HO := Lib.hid hA.ok
  have HRu := Lib.hid hR.u
  have HRl := Lib.hid hR.len
  have HF1 := Lib.hid hF1w
  clear hT hF0w hA hR hF1w hnil
  go_wp2_with (fail)
  refine (live_any (HA.out w1 (MM.Far.refl _ _)) hn1 R a2 m cap2 HRl.out (by omega) (HRt.out w1 (MM.Far.refl _ _)).src HRu.out).mono ?_
  rintro e w2 ⟨pb, gb, hb, wb, rfl, hB, hAb, hRb, hF2⟩
  have HF2 := Lib.hid hF2
  have HAb := Lib.hid (fun (w' : World) (f : MM.Far [] w2 w') => hAb.far f (by simp) (by simp) (by simp))
  have HLl := Lib.hid ((MP.liveW_len (ts := ts) R).trans HRl.out)
  have HRb := Lib.hid hRb
  clear hAb hRb hF2 hB
  rw [HRl.out]
  have hE1 := AL.empty_row ((w2.alloc (.map #[] 0)).alloc (.map #[] 0)) w2.heap.size (by simp; omega)
  rw [World.size_alloc, World.size_alloc] at hE1
  have HE1 := Lib.hid hE1
  have hFm := (((MM.Far.refl [] w2).alloc (.map #[] 0)).alloc (.map #[] 0)).alloc (.cells #[] 42)
  have HFm := Lib.hid hFm
  clear hE1 hFm
  go_wp2_with (first
    | (at_builtin
       refine MO.wpList_append _ ?_ (.tmp 51) (.tmp 52) 23 ?_ w2.heap.size 42 (.int .u64 0) 1 8 words_slice word_info rfl (by omega) _ 0 [] ?_ HE1.out a2 m cap2 (U64s R) ?_ (by simp [U64s, HRl.out]) HNil.out [] ?_ (u64s_one R) (by simp only [maxLen]; omega) (by omega) ?_ ?_
       · rfl
       · rfl
       · rfl
       · rfl
       · exact (HRt.out _ (HF2.out.trans HFm.out (by simp))).src
       · simp; omega
       intro v3 w3 hv3 hg3 hat3
       have hF3 : MM.Far [] w2 w3 := HFm.out.trans (MM.Far.of_grown (S := [w2.heap.size + 1 + 1]) hg3 (fun b hb _ => by simp [Value.ownBlock] at hb ⊢; omega)) (fun b hb hl => by simp at hb; omega)
       have hs3 := hF3.size
       have hE3 := Lib.hid (AL.empty_row w3 w2.heap.size hs3)
       have HF3 := Lib.hid (hF3.alloc (.cells #[] 42))
       have HV3 := Lib.hid hv3
       have HAT3 := Lib.hid hat3
       have HG3 := Lib.hid hg3
       clear hF3 hv3 hat3 hg3)
    | (at_builtin
       refine MO.wpList_append _ ?_ (.tmp 54) (.tmp 55) 23 ?_ w2.heap.size 42 (.int .u64 0) 1 8 words_slice word_info rfl (by omega) _ 0 [] ?_ hE3.out (some ⟨wb, 0, none⟩) m m (U64s (MP.liveW ts R)) ?_ (by simp [U64s, HLl.out]) (fun h => by cases h) [] ?_ (u64s_one _) (by simp only [maxLen]; omega) (by omega) ?_ ?_
       · rfl
       · rfl
       · rfl
       · rfl
       · exact src_row (HRb.out.far HF3.out (by simp))
       · simp; omega
       intro v4 w4 hv4 hg4 hat4))
  obtain ⟨s, hs⟩ : ∃ s, s = MP.liveS ts R := ⟨_, rfl⟩
  have hLv := MP.live HO.out R
  rw [← hs] at hLv
  have hST : Sam w2 ts R s w2.heap.size (w2.heap.size + 1) w4 v3 v4 R [] := by
    have hg3 := HG3.out
    have k3 := hg3.size
    simp only [World.size_alloc] at k3
    have FA := MM.Far.of_grown (S := [w2.heap.size + 1 + 1]) hg3 (fun b hb _ => by simp [Value.ownBlock] at hb ⊢; omega)
    have FB : MM.Far [w3.heap.size] w3 w4 := ((MM.Far.refl [w3.heap.size] w3).alloc _).trans (MM.Far.of_grown (S := [w3.heap.size]) hg4 (fun b hb _ => by simp [Value.ownBlock] at hb ⊢; omega)) (fun b hb _ => hb)
    have FC : MM.Far [w2.heap.size + 1 + 1, w3.heap.size] _ w4 := (FA.mono (S' := [w2.heap.size + 1 + 1, w3.heap.size]) (by simp)).trans FB (by simp)
    have hv3 := HV3.out
    rw [Nat.zero_add, List.nil_append] at hv3
    rw [Nat.zero_add, List.nil_append, hLv.words] at hv4
    have lt3 := MM.own_lt hv3
    have hp : (w2.alloc (.map #[] 0)).heap.size = w2.heap.size + 1 := World.size_alloc _ _
    refine ⟨(HF3.out.trans (MM.Far.of_grown (S := [w3.heap.size]) hg4 (fun b hb _ => by simp [Value.ownBlock] at hb ⊢; omega)) (fun b hb hl => by simp at hb; omega)), (MQ.Que.of_own hv3).far FB (fun b hb hm => by have := lt3 b hb; simp at hm; omega), MQ.Que.of_own hv4, fun b hb hb2 => ?_, ?_, ?_, by omega, by omega, MP.Vis.start HRu.out, by simp [MP.wts]⟩
    · have := lt3 b hb
      rcases hat4 with e | e
      · rw [e] at hb2; simp [Value.ownBlock] at hb2; omega
      · rw [e] at hb2; simp at hb2; omega
    · refine Wm.far (f := MP.toF ts s []) ⟨.map [], (((World.ownsMap_made w2 Try.prog 42 _).alloc (.map #[] 0)).alloc (.cells #[] 42)), MP.TabW.none_.congr (fun x _ => (MP.toF_nil x).symm)⟩ FC (by simp; omega)
    · have h1 := (World.ownsMap_made (H := Unit) (w2.alloc (.map #[] 0)) Try.prog 42 (plainElem Try.prog 42)).alloc (.cells #[] 42)
      rw [hp] at h1
      exact Wm.far (f := MP.backF ts s []) ⟨.map [], h1, MP.TabW.none_.congr (fun x _ => (MP.backF_nil x).symm)⟩ FC (by simp; omega)
  have HST := Lib.hid hST
  have HLv := Lib.hid hLv
  have HS := Lib.hid hs
  have hszN : sz ts ≤ 65536 := by have := HO.out.room; have := HO.out.size; omega
  obtain ⟨bt, hbt⟩ : ∃ bt, bt = w2.heap.size := ⟨_, rfl⟩
  obtain ⟨bb, hbb⟩ : ∃ bb, bb = w2.heap.size + 1 := ⟨_, rfl⟩
  rw [← hbb, ← hbt] at HST ⊢
  clear hST hv4 hg4 hat4 hLv HV3 HAT3 HG3 HF3 hE3 hs3 hs HFm HE1 hbt hbb hmm
  go_loopw [11, 12, 13] (fun s11 s12 s13 wr => ∃ todo V, s13 = .int .i64 (MP.wts ts V : Nat) ∧ Hid (Sam w2 ts R s bt bb wr s11 s12 todo V)) (fun s11 _ s13 _ => (sz ts - (intOf s13).toNat) + lenQ s11)
  case atStart => exact ⟨R, [], rfl, HST⟩
  case round =>
    obtain ⟨todo, V, rfl, hO⟩ := hrel
    have hle := hO.out.le
    have hVle := hO.out.vis.le
    cases todo with
    | nil =>
      obtain ⟨A5, c5, e5⟩ := que_nil hO.out.qt
      obtain ⟨u, hu⟩ : ∃ u : Int, (MP.wts ts V : Int) = u := ⟨_, rfl⟩
      have hsum := hO.out.vis.sum HO.out
      have HU1 := Lib.hid (used_is (HAb.out wr hO.out.far) u (by rw [← hu, hsum]; rfl))
      have HR1 := Lib.hid (show (MP.reach ts R : Int) = u by rw [← hu, hsum])
      have HR2 := Lib.hid (show (MP.reach (MP.liveT ts R) (MP.liveW ts R) : Int) = u by
        unfold MP.reach
        rw [(MP.twice HO.out R).1, ← hu, hsum]; rfl)
      have HFr := Lib.hid hO.out.far
      have HLu := Lib.hid (MP.liveW_u (ts := ts) HRu.out)
      rw [e5, hu]
      clear hO hle hVle hsum e5 hu
      go_wp2_with (fail)
      refine HU1.out.mono ?_
      rintro e w' ⟨rfl, rfl⟩
      go_wp2_with (fail)
      refine (reach_is (HA.out wr (HF2.out.trans HFr.out (by simp))) hn1 R a2 m cap2 u HR1.out HRl.out (by omega) (HRt.out wr (HF2.out.trans HFr.out (by simp))).src HRu.out).mono ?_
      rintro e w5 ⟨rfl, hF5⟩
      have HF5 := Lib.hid (HFr.out.trans hF5 (by simp))
      clear hF5
      go_wp2_with (fail)
      refine (reach_is (HAb.out w5 HF5.out) hn1 (MP.liveW ts R) (some ⟨wb, 0, none⟩) m m u HR2.out HLl.out (by omega) (src_row (HRb.out.far HF5.out (by simp))) HLu.out).mono ?_
      rintro e w6 ⟨rfl, hF6⟩
      go_wp2_with (fail)
      go_ret
      exact ⟨by simp, (((HF1.out.trans HF2.out (by simp)).trans HF5.out (by simp)).trans hF6 (by simp)).below_nil⟩
    | cons x t =>
      have hxm : x ∈ x :: t := List.mem_cons_self ..
      have hux := (hO.out.vis.tds x hxm).1
      have hcov := hO.out.vis.cov HLv.out x hxm
      have hsk1 : ∀ y ∈ x :: t, y = x ∨ y ∈ t := fun y hy => List.mem_cons.1 hy
      have hsk2 : ∀ y ∈ t, y ∈ x :: t := fun y hy => List.mem_cons_of_mem _ hy
      obtain ⟨g1, o1, c1, A1, e1, hc1, hc1m, cell1, sl1, q1, b1⟩ := que_head hO.out.qt
      have hqo := hO.out.qo
      rw [List.map_cons] at hqo
      obtain ⟨g2, o2, c2, A2, e2, hc2, hc2m, cell2, sl2, q2, b2⟩ := que_head hqo
      rw [List.length_map] at hc2 sl2 q2 e2 b2
      have hap := hO.out.ap
      rw [e1, e2] at hap ⊢
      have hgne : g1 ≠ g2 := fun e => hap g1 rfl (by rw [e]; rfl)
      obtain ⟨k, hk⟩ : ∃ k, t.length = k := ⟨_, rfl⟩
      have hle2 : (sz ts - MP.wts ts V) + (k + 1) ≤ sz ts + R.length := by rw [← hk]; exact hle
      rw [hk] at hc1 sl1 q1 e1 b1 hc2 sl2 q2 e2 b2 ⊢
      unfold maxLen at hc1m hc2m
      have hyu := MP.phi_u (s := s) x hux hcov
      have HK := Lib.hid hk
      have HVis := Lib.hid hO.out.vis
      have HFD := Lib.hid (fun (d : Nat) => hO.out.far.drewN d)
      have HQ := Lib.hid (show Qs w2 wr ts s bt bb V.length (MP.toF ts s V) (MP.backF ts s V) (.slice A1 k (c1 - 1)) (.slice A2 k (c2 - 1)) t (t.map (MP.phi ts s)) from
        ⟨hO.out.far, q1, q2, fun b hb hb2 => hgne ((b1 b hb).symm.trans (b2 b hb2)), hO.out.mt, hO.out.mb⟩)
      have HNE := Lib.hid hO.out.ne
      have HNW := Lib.hid hO.out.new
      have HUX := Lib.hid hux
      have HYU := Lib.hid hyu
      have HCov := Lib.hid hcov
      have HM := Lib.hid (show R.length = m from HRl.out)
      obtain ⟨y, hy⟩ : ∃ y, MP.phi ts s x = y := ⟨_, rfl⟩
      rw [hy] at cell2 HYU
      have HY := Lib.hid hy
      have i1 : (0 : Int) < (k : Int) + 1 := by omega
      have hR20 : R.length ≤ 20 := by rw [HRl.out]; exact hm20
      clear hO hqo hap e1 e2 q1 q2 b1 b2 hux hyu hcov hk hy hle hgne
      cases hlk : AW.look ts x with
      | none =>
        have hkx : kindN ts x = 0 := by unfold kindN; rw [hlk]
        have hky : kindN (MP.liveT ts R) y = 0 := by
          have := MP.phi_bare (s := s) hlk
          rw [HY.out] at this
          unfold kindN
          rw [show MP.liveT ts R = s.us from by rw [HS.out]; rfl, this]
        have HKX := Lib.hid (fun (w' : World) (f : MM.Far [] w2 w') => kind_to (HA.out w' (HF2.out.trans f (by simp))) x 0 HUX.out hkx)
        have HKY := Lib.hid (fun (w' : World) (f : MM.Far [] w2 w') => kind_to (HAb.out w' f) y 0 HYU.out hky)
        have hyb : MP.bareW x = y := by rw [← HY.out]; exact (MP.phi_none s hlk).symm
        have HYB := Lib.hid hyb
        have HV2 := Lib.hid (HVis.out.skip hsk1 hsk2 (fun i hi => by rw [hlk] at hi; cases hi))
        clear hkx hky hyb hlk hsk1 hsk2 hxm
        go_wp2_with (fail)
        go_quiet (fail)
        rename Nat => d1
        go_wp2_with (fail)
        go_quiet (fail)
        go_wp2_with (fail)
        have HFW := HFD.out (d1 + nq)
        have HQW := Lib.hid (HQ.out.nil ((MM.Far.refl [] wr).drewN (d1 + nq)))
        have HFW := Lib.hid HFW
        generalize wr.drewN (d1 + nq) = W at HFW HQW ⊢
        refine (HKX.out W HFW.out).mono ?_
        rintro e w' ⟨rfl, rfl⟩
        go_wp2_with (fail)
        refine (HKY.out W HFW.out).mono ?_
        rintro e w' ⟨rfl, rfl⟩
        go_wp2_with (fail)
        refine (HKX.out W HFW.out).mono ?_
        rintro e w' ⟨rfl, rfl⟩
        go_wp2_with (fail)
        have hbr := bare_any x HUX.out W
        rw [HYB.out] at hbr
        refine hbr.mono ?_
        rintro e w' ⟨rfl, rfl⟩
        clear hbr
        go_wp2_with (fail)
        have HE := Lib.hid (show Sam w2 ts R s bt bb W (.slice A1 k (c1 - 1)) (.slice A2 k (c2 - 1)) t V from
          ⟨HQW.out.far, HQW.out.qt, HQW.out.qo, HQW.out.ap, HQW.out.mt, HQW.out.mb, HNE.out, HNW.out, HV2.out, by rw [HK.out]; omega⟩)
        go_roundw
        case rel => exact ⟨t, V, rfl, HE⟩
        case measure => simp [intOf, lenQ]
      | some i =>
        have hil := MP.look_lt hlk
        obtain ⟨pp, hp1, hp2, hp3, _⟩ := MP.words_of HO.out HLv.out hlk HCov.out
        rw [HY.out] at hp1
        have hTs : MP.liveT ts R = s.us := by rw [HS.out]; rfl
        obtain ⟨k0, hk0⟩ : ∃ k0, (th ts i).k = k0 := ⟨_, rfl⟩
        obtain ⟨L, hL⟩ : ∃ L, (th ts i).l.length = L := ⟨_, rfl⟩
        have hk1 : 1 ≤ k0 := by rw [← hk0]; exact (HO.out.each i hil).1
        have hL255 : L ≤ 255 := by rw [← hL]; exact (HO.out.each i hil).2.2.1
        have hkz : (k0 == 0) = false := by rw [beq_eq_false_iff_ne]; omega
        have HKX := Lib.hid (fun (w' : World) (f : MM.Far [] w2 w') => kind_to (HA.out w' (HF2.out.trans f (by simp))) x k0 HUX.out (by rw [MW.kind_at_ hlk, hk0]))
        have HKY := Lib.hid (fun (w' : World) (f : MM.Far [] w2 w') => kind_to (HAb.out w' f) y k0 HYU.out (by rw [hTs, MW.kind_at_ hp1, hp2, hk0]))
        have HLX := Lib.hid (fun (w' : World) (f : MM.Far [] w2 w') => len_to (HA.out w' (HF2.out.trans f (by simp))) x (L : Int) HUX.out (by rw [MW.len_at_ hlk, hL]))
        have HLY := Lib.hid (fun (w' : World) (f : MM.Far [] w2 w') => len_to (HAb.out w' f) y (L : Int) HYU.out (by rw [hTs, MW.len_at_ hp1, hp3, List.length_map, hL]))
        have HGX := Lib.hid (fun (j : Nat) (hj : j < (th ts i).l.length) (w' : World) (f : MM.Far [] w2 w') => get_to (HA.out w' (HF2.out.trans f (by simp))) x j (th ts i).l[j] 0 HUX.out (MW.get_at_ hlk hj).1 (MW.get_at_ hlk hj).2)
        have HGY := Lib.hid (fun (j : Nat) (hj : j < (th ts i).l.length) (w' : World) (f : MM.Far [] w2 w') => get_to (HAb.out w' f) y j (MP.phi ts s (th ts i).l[j]) 0 HYU.out
          (by rw [hTs, (MW.get_at_ hp1 (j := j) (by rw [hp3, List.length_map]; exact hj)).1]; simp [hp3]) (by rw [hTs]; exact (MW.get_at_ hp1 (j := j) (by rw [hp3, List.length_map]; exact hj)).2))
        have htF := MP.toF_some (s := s) (V := V) hlk
        have hbF := MP.backF_some (V := V) HO.out HLv.out HUX.out hlk HCov.out
        rw [HY.out] at htF hbF
        have HL := Lib.hid hL
        have HLk := Lib.hid hlk
        by_cases hV : i ∈ V
        · rw [if_pos hV] at htF hbF
          have HTF := Lib.hid htF
          have HBF := Lib.hid hbF
          have HV2 := Lib.hid (HVis.out.skip hsk1 hsk2 (fun j hj => by rw [hlk] at hj; cases hj; exact hV))
          clear hp1 hp2 hp3 hTs hk0 hL hil htF hbF hV hsk1 hsk2 hxm hlk
          go_wp2_with (fail)
          go_quiet (fail)
          rename Nat => d1
          go_wp2_with (fail)
          go_quiet (fail)
          go_wp2_with (fail)
          have HFW := HFD.out (d1 + nq)
          have HQW := Lib.hid (HQ.out.nil ((MM.Far.refl [] wr).drewN (d1 + nq)))
          have HFW := Lib.hid HFW
          generalize wr.drewN (d1 + nq) = W at HFW HQW ⊢
          refine (HKX.out W HFW.out).mono ?_
          rintro e w' ⟨rfl, rfl⟩
          go_wp2_with (fail)
          refine (HKY.out W HFW.out).mono ?_
          rintro e w' ⟨rfl, rfl⟩
          go_wp2_with (fail)
          refine (HKX.out W HFW.out).mono ?_
          rintro e w' ⟨rfl, rfl⟩
          have hl1 := HQW.out.mt.look x HUX.out
          have hl2 := HQW.out.mb.look y HYU.out
          rw [HTF.out] at hl1
          rw [HBF.out] at hl2
          simp only [Option.getD_some, Option.isSome_some] at hl1 hl2
          go_wp2_with (fail)
          have HE := Lib.hid (show Sam w2 ts R s bt bb W (.slice A1 k (c1 - 1)) (.slice A2 k (c2 - 1)) t V from
            ⟨HQW.out.far, HQW.out.qt, HQW.out.qo, HQW.out.ap, HQW.out.mt, HQW.out.mb, HNE.out, HNW.out, HV2.out, by rw [HK.out]; omega⟩)
          go_roundw
          case rel => exact ⟨t, V, rfl, HE⟩
          case measure => simp [intOf, lenQ]
        · rw [if_neg hV] at htF hbF
          have HTF := Lib.hid htF
          have HBF := Lib.hid hbF
          have hvis2 := HVis.out.visit HO.out hxm hlk hV (todo' := t ++ (th ts i).l) (fun y hy => by rcases hsk1 y hy with h | h; exact .inl h; exact .inr (by simp [h])) (fun y hy => by rcases List.mem_append.1 hy with h | h; exact .inl (hsk2 y h); exact .inr h) (fun y hy => by simp [hy])
          have hwt : MP.wts ts (V ++ [i]) = MP.wts ts V + (L + 1) := by rw [MP.wts_one, hL]
          have hvle2 := hvis2.le
          have hsz2 : L + 1 ≤ sz ts - MP.wts ts V := Nat.le_sub_of_add_le (by rw [Nat.add_comm, ← hwt]; exact hvle2)
          have hVl : V.length ≤ 65536 := by
            have h2 := len_le_wts ts V
            omega
          have HVis2 := Lib.hid hvis2
          have HWt := Lib.hid hwt
          have hpt := fun z hz => MP.toF_put (s := s) (V := V) HUX.out hlk z hz
          have hpb := fun z hz => MP.backF_put (V := V) HO.out HLv.out HUX.out hlk HCov.out z hz
          rw [HY.out] at hpt hpb
          have HPT := Lib.hid hpt
          have HPB := Lib.hid hpb
          obtain ⟨W2, hW2⟩ : ∃ W2, W2 = MP.wts ts V := ⟨_, rfl⟩
          rw [← hW2] at hle2 hVle hsz2 ⊢
          have HW2 := Lib.hid hW2
          have HU := Lib.hid (fun (z : Int) (hz : z ∈ (th ts i).l) => (HO.out.each i hil).2.2.2 z hz)
          obtain ⟨l, hl⟩ : ∃ l, (th ts i).l = l := ⟨_, rfl⟩
          rw [hl] at HVis2 HGX HGY HL HU
          clear hp1 hp2 hp3 hTs hk0 hL hil htF hbF hV hsk1 hsk2 hxm hlk hvis2 hwt hvle2 hpt hpb hW2 hl HVis
          go_wp2_with (fail)
          go_quiet (fail)
          rename Nat => d1
          go_wp2_with (fail)
          go_quiet (fail)
          go_wp2_with (fail)
          have HFW := HFD.out (d1 + nq)
          have HQW := Lib.hid (HQ.out.nil ((MM.Far.refl [] wr).drewN (d1 + nq)))
          have HFW := Lib.hid HFW
          generalize wr.drewN (d1 + nq) = W at HFW HQW ⊢
          refine (HKX.out W HFW.out).mono ?_
          rintro e w' ⟨rfl, rfl⟩
          go_wp2_with (fail)
          refine (HKY.out W HFW.out).mono ?_
          rintro e w' ⟨rfl, rfl⟩
          go_wp2_with (fail)
          refine (HKX.out W HFW.out).mono ?_
          rintro e w' ⟨rfl, rfl⟩
          have hl1 := HQW.out.mt.look x HUX.out
          have hl2 := HQW.out.mb.look y HYU.out
          rw [HTF.out] at hl1
          rw [HBF.out] at hl2
          simp only [Option.getD_none, Option.isSome_none] at hl1 hl2
          obtain ⟨Dt, hDt, tDt⟩ := HQW.out.mt
          have TDt := Lib.hid tDt
          clear tDt
          go_wp2_with (at_mapUpdate
                       refine wpList_mapUpdate_own _ rfl _ _ _ 40 rfl 42 42 word_keyed Try.underlying40 _ bt V.length Dt rfl hDt (by unfold maxLen; omega) _ _ _ rfl rfl (word_key HUX.out) _ [] (plainElem_int Try.underlying42 (u_wf HYU.out)) ?_
                       intro w5 m5 hg5
                       have HQ5 := Lib.hid (HQW.out.storeT HNE.out HNW.out.1 TDt.out m5 hg5 HPT.out)
                       obtain ⟨Db, hDb, tDb⟩ := HQW.out.mb.far (MM.Far.of_grown (S := [bt]) hg5 (fun b hb _ => by simp at hb; simp [hb])) (by simpa using HNE.out.symm)
                       clear m5 hg5 hl1 hl2 hDt
                       have TDb := Lib.hid tDb
                       clear tDb
                       refine wpList_mapUpdate_own _ rfl _ _ _ 40 rfl 42 42 word_keyed Try.underlying40 _ bb V.length Db rfl hDb (by unfold maxLen; omega) _ _ _ rfl rfl (word_key HYU.out) _ [] (plainElem_int Try.underlying42 (u_wf HUX.out)) ?_
                       intro w6 m6 hg6)
          have HQ6 := Lib.hid (HQ5.out.storeB HNE.out HNW.out.2 TDb.out (Nat.le_refl _) m6 hg6 HPB.out)
          clear m6 hg6 hDb
          refine (HLX.out w6 HQ6.out.far).mono ?_
          rintro e w' ⟨rfl, rfl⟩
          go_wp2_with (fail)
          refine (HLY.out w6 HQ6.out.far).mono ?_
          rintro e w' ⟨rfl, rfl⟩
          go_wp2_with (fail)
          refine (HLX.out w6 HQ6.out.far).mono ?_
          rintro e w' ⟨rfl, rfl⟩
          go_wp2_with (fail)
          refine (HLX.out w6 HQ6.out.far).mono ?_
          rintro e w' ⟨rfl, rfl⟩
          go_wp2_with (fail)
          have HQ7 := Lib.hid (show Qs w2 w6 ts s bt bb (V.length + 1) (MP.toF ts s (V ++ [i])) (MP.backF ts s (V ++ [i])) (.slice A1 k (c1 - 1)) (.slice A2 k (c2 - 1)) (t ++ l.take 0) ((t ++ l.take 0).map (MP.phi ts s)) from by simpa using HQ6.out)
          go_loopw [11, 12, 136] (fun v11 v12 i136 w7 => ∃ j : Nat, j ≤ L ∧ i136 = .int .i64 (j : Int) ∧ Hid (Qs w2 w7 ts s bt bb (V.length + 1) (MP.toF ts s (V ++ [i])) (MP.backF ts s (V ++ [i])) v11 v12 (t ++ l.take j) ((t ++ l.take j).map (MP.phi ts s)))) (fun _ _ i136 _ => L - (intOf i136).toNat)
          case atStart => exact ⟨0, by omega, rfl, HQ7⟩
          case round =>
            rename World => w7
            obtain ⟨j, hj, rfl, hQ⟩ := hrel
            by_cases hlj : j < L
            · have hjl : j < l.length := by rw [HL.out]; exact hlj
              have hgx := Lib.hid (HGX.out j hjl w7 hQ.out.far)
              have hgy := Lib.hid (HGY.out j hjl w7 hQ.out.far)
              have htk : l.take (j + 1) = l.take j ++ [l[j]] := List.take_succ_eq_append_getElem hjl
              have HTK := Lib.hid htk
              have hln : (t ++ l.take j).length = k + j := by rw [List.length_append, HK.out, List.length_take]; omega
              have HLN := Lib.hid hln
              generalize l[j] = z at hgx hgy HTK
              obtain ⟨z2, hz2⟩ : ∃ z2, MP.phi ts s z = z2 := ⟨_, rfl⟩
              rw [hz2] at hgy
              have HZ2 := Lib.hid hz2
              clear htk hln hz2
              go_wp2_with (fail)
              refine hgx.out.mono ?_
              rintro e w' ⟨rfl, rfl⟩
              go_wp2_with (fail)
              refine hgy.out.mono ?_
              rintro e w' ⟨rfl, rfl⟩
              have HQ8 := Lib.hid (hQ.out.nil ((MM.Far.refl [] w7).alloc (.cells #[.int .u64 z] 42)))
              go_wp2_with (first
                | (at_builtin
                   refine MQ.wpList_push _ ?_ (.tmp 153) (.tmp 155) 23 ?_ w2.heap.size 42 (.int .u64 0) 8 words_slice word_info rfl u11 (U64s (t ++ l.take j)) ?_ HQ8.out.qt ⟨w7.heap.size, 0, none⟩ (.int .u64 z) ?_ ((MM.Row.new w7 42 [.int .u64 z]).at (i := 0) rfl) rfl ?_ ?_ HQ8.out.far.size ?_
                   · rfl
                   · rfl
                   · rfl
                   · rfl
                   · simp only [U64s, List.length_map, HLN.out, maxLen]; omega
                   · simp only [U64s, List.length_map, HLN.out]; omega
                   intro v9 w9 hq9 hg9 ha9
                   have HQ9 := Lib.hid (HQ8.out.left hq9 hg9 ha9)
                   have HQA := Lib.hid (HQ9.out.nil ((MM.Far.refl [] w9).alloc (.cells #[.int .u64 z2] 42)))
                   clear hq9 hg9 ha9)
                | (at_builtin
                   refine MQ.wpList_push _ ?_ (.tmp 157) (.tmp 159) 23 ?_ w2.heap.size 42 (.int .u64 0) 8 words_slice word_info rfl u12 (U64s ((t ++ l.take j).map (MP.phi ts s))) ?_ HQA.out.qo ⟨w9.heap.size, 0, none⟩ (.int .u64 z2) ?_ ((MM.Row.new w9 42 [.int .u64 z2]).at (i := 0) rfl) rfl ?_ ?_ HQA.out.far.size ?_
                   · rfl
                   · rfl
                   · rfl
                   · rfl
                   · simp only [U64s, List.length_map, HLN.out, maxLen]; omega
                   · simp only [U64s, List.length_map, HLN.out]; omega
                   intro vA wA hqA hgA haA
                   have HQB := Lib.hid (HQA.out.right hqA hgA haA)
                   clear hqA hgA haA))
              have HQC := Lib.hid (show Qs w2 wA ts s bt bb (V.length + 1) (MP.toF ts s (V ++ [i])) (MP.backF ts s (V ++ [i])) v9 vA (t ++ l.take (j + 1)) ((t ++ l.take (j + 1)).map (MP.phi ts s)) from by
                have h1 : t ++ l.take (j + 1) = (t ++ l.take j) ++ [z] := by rw [HTK.out, List.append_assoc]
                rw [h1, List.map_append, List.map_cons, List.map_nil, HZ2.out]
                exact HQB.out)
              clear HQB
              go_roundw
              case rel => exact ⟨j + 1, by omega, by go_num, HQC⟩
              case measure => simp [intOf]; omega
            · obtain rfl : j = L := by omega
              have htk : l.take j = l := by rw [← HL.out, List.take_length]
              have hqe := hQ.out
              rw [htk] at hqe
              have hln : (t ++ l).length = k + j := by rw [List.length_append, HK.out, HL.out]
              have HE := Lib.hid (show Sam w2 ts R s bt bb w7 u11 u12 (t ++ l) (V ++ [i]) from
                ⟨hqe.far, hqe.qt, hqe.qo, hqe.ap, by rw [List.length_append, List.length_singleton]; exact hqe.mt, by rw [List.length_append, List.length_singleton]; exact hqe.mb, HNE.out, HNW.out, HVis2.out, by rw [HWt.out, ← HW2.out, hln]; omega⟩)
              have HLQ := Lib.hid (que_len hqe.qt)
              have HLN := Lib.hid hln
              clear hQ hqe htk hln
              go_wp2_with (fail)
              go_roundw
              case rel => exact ⟨_, _, by rw [HWt.out, ← HW2.out]; go_num, HE⟩
              case measure =>
                rw [HLQ.out]
                simp [intOf, lenQ, U64s, HK.out, HL.out]
                omega
end ML
end Go.Proofs.Ytcfepiihjbbnaaa
