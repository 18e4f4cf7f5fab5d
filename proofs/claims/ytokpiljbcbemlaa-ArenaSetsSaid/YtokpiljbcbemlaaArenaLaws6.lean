/-
  The walk of ArenaSets, done. Condition: the arguments' readings.
-/
import Derived.Test.YtokpiljbcbemlaaArenaLaws5
import Derived.Test.YtokpiljbcbemlaaMoveWalks1
import Derived.IntWalk
namespace Go.Proofs.Ytokpiljbcbemlaa
open Go.RowKit
namespace AL
open AW
theorem reps_u (k : Nat) : ∀ x ∈ List.replicate k (0 : Int), WP.U x := by
  intro x hx
  have := List.eq_of_mem_replicate hx
  subst this; unfold WP.U; omega
theorem heap3 (w : World) (o1 o2 o3 : Obj) : (((w.alloc o1).alloc o2).alloc o3).drew.heap[w.heap.size]? = some o1 ∧ (((w.alloc o1).alloc o2).alloc o3).drew.heap[w.heap.size + 1]? = some o2 ∧ (((w.alloc o1).alloc o2).alloc o3).drew.heap[w.heap.size + 1 + 1]? = some o3 := by
  have s1 : (w.alloc o1).heap.size = w.heap.size + 1 := by simp
  have s2 : ((w.alloc o1).alloc o2).heap.size = w.heap.size + 1 + 1 := by simp
  refine ⟨?_, ?_, ?_⟩
  · show (((w.alloc o1).alloc o2).alloc o3).heap[w.heap.size]? = some o1
    rw [heap_alloc_old _ o3 (by omega), heap_alloc_old _ o2 (by omega)]
    exact heap_alloc_new w o1
  · show (((w.alloc o1).alloc o2).alloc o3).heap[w.heap.size + 1]? = some o2
    rw [heap_alloc_old _ o3 (by omega), ← s1]
    exact heap_alloc_new _ o2
  · show (((w.alloc o1).alloc o2).alloc o3).heap[w.heap.size + 1 + 1]? = some o3
    rw [← s2]
    exact heap_alloc_new _ o3
theorem rowA {w : World} {b : Nat} {t : TypeId} {x y : Value} (h : w.heap[b]? = some (.cells #[x, y] t)) : MM.Row w b t [x, y] := h
theorem rowM {w : World} {b n : Nat} (h : w.heap[b]? = some (.cells (madeCells #[.int .u64 0] n) 42)) : MM.Row w b 42 (U64s (List.replicate n 0)) := by
  rw [made_list] at h
  unfold MM.Row U64s
  rw [List.map_replicate]
  exact h
set_option maxRecDepth 100000 in
set_option maxHeartbeats 8000000 in
theorem sets (num0 num1 : Int) (a : Option Addr) (len cap : Nat) (tl : List Act) (w : World) (h0 : (Lit.int .u8 num0).wf = true) (h1 : (Lit.int .u8 num1).wf = true) (hz : Acts w a len cap tl) :
    Calls Try.prog 10 #[.int .u8 num0, .int .u8 num1, .slice a len cap] w fun e w' => e = .returned (.bool true) ∧ Below w.heap.size w w' := by
  obtain ⟨h00, h01⟩ := u8_of h0
  obtain ⟨h10, h11⟩ := u8_of h1
  have HZ := Lib.hid hz
  obtain ⟨n0, hn0⟩ : ∃ k : Nat, num0 % 10 = k := ⟨(num0 % 10).toNat, by omega⟩
  obtain ⟨n1, hn1⟩ : ∃ k : Nat, num1 % 10 = k := ⟨(num1 % 10).toNat, by omega⟩
  have hk0 : n0 ≤ 9 := by omega
  have hk1 : n1 ≤ 9 := by omega
  have m0 := run_make_row' (P := Try.prog) 23 42 (.int .u64 0) 8 words_slice word_info rfl .u8 .u8 n0 (by omega) (by omega)
  have m1 := run_make_row' (P := Try.prog) 23 42 (.int .u64 0) 8 words_slice word_info rfl .u8 .u8 n1 (by omega) (by omega)
  clear hz h0 h1
  go_enter Try.func10, Try.ntmps10
  go_wp2_with (fail)
  refine (shown_any w).mono ?_
  rintro e w0 ⟨rfl, hF0⟩
  go_wp2_with (fail)
  refine (new_int w0 30 (by omega) (by omega)).mono ?_
  rintro e w1 ⟨p, g, h, rfl, hp, hg, hh, hA1, hF1⟩
  have hF01 := hF0.trans hF1 (by simp)
  have s0 := hF0.size
  have hp1 := hA1.head.lt
  have hg1 := hA1.words.lt
  have hh1 := hA1.kinds.lt
  go_wp2_with (fail)
  go_cut [10] (fun s10 wx => ∃ wb b0 b1 : Nat, s10 = .pointer (some ⟨wb, 0, none⟩) ∧ MM.Row wx wb 59 [.slice (some ⟨b0, 0, none⟩) n0 n0, .slice (some ⟨b1, 0, none⟩) n1 n1] ∧ MM.Row wx b0 42 (U64s (List.replicate n0 0)) ∧ MM.Row wx b1 42 (U64s (List.replicate n1 0)) ∧ b0 ≠ b1 ∧ (w1.heap.size ≤ b0 ∧ w1.heap.size ≤ b1) ∧ MM.Far [] w1 wx)
  case first =>
    go_region
    all_goals
      go_wp2_with (fail)
      go_meet
      first
        | exact ⟨_, _, _, rfl, rowA (heap3 w1 _ _ _).1, rowM (heap3 w1 _ _ _).2.1, rowM (heap3 w1 _ _ _).2.2, by omega, by omega, ((((MM.Far.refl [] w1).alloc _).alloc _).alloc _).drew⟩
        | exact ⟨_, _, _, rfl, rowA (heap3 w1 _ _ _).1, rowM (heap3 w1 _ _ _).2.2, rowM (heap3 w1 _ _ _).2.1, by omega, by omega, ((((MM.Far.refl [] w1).alloc _).alloc _).alloc _).drew⟩
        | exact ⟨_, _, _, rfl, rowA (heap3 w1 _ _ _).2.1, rowM (heap3 w1 _ _ _).1, rowM (heap3 w1 _ _ _).2.2, by omega, by omega, ((((MM.Far.refl [] w1).alloc _).alloc _).alloc _).drew⟩
        | exact ⟨_, _, _, rfl, rowA (heap3 w1 _ _ _).2.1, rowM (heap3 w1 _ _ _).2.2, rowM (heap3 w1 _ _ _).1, by omega, by omega, ((((MM.Far.refl [] w1).alloc _).alloc _).alloc _).drew⟩
        | exact ⟨_, _, _, rfl, rowA (heap3 w1 _ _ _).2.2, rowM (heap3 w1 _ _ _).1, rowM (heap3 w1 _ _ _).2.1, by omega, by omega, ((((MM.Far.refl [] w1).alloc _).alloc _).alloc _).drew⟩
        | exact ⟨_, _, _, rfl, rowA (heap3 w1 _ _ _).2.2, rowM (heap3 w1 _ _ _).2.1, rowM (heap3 w1 _ _ _).1, by omega, by omega, ((((MM.Far.refl [] w1).alloc _).alloc _).alloc _).drew⟩
  case rest =>
    clear m0 m1
    obtain ⟨wb, b0, b1, rfl, hW, hB0, hB1, hne, hlo, hFc⟩ := hcut
    obtain ⟨l0, hl0⟩ : ∃ l0, List.replicate n0 (0 : Int) = l0 := ⟨_, rfl⟩
    obtain ⟨l1, hl1⟩ : ∃ l1, List.replicate n1 (0 : Int) = l1 := ⟨_, rfl⟩
    have hu0 : ∀ x ∈ l0, WP.U x := by rw [← hl0]; exact reps_u n0
    have hu1 : ∀ x ∈ l1, WP.U x := by rw [← hl1]; exact reps_u n1
    have hlen0 : l0.length = n0 := by rw [← hl0]; simp
    have hlen1 : l1.length = n1 := by rw [← hl1]; simp
    rw [hl0] at hB0
    rw [hl1] at hB1
    have q0 := hW.at (i := 0) rfl
    have q1 := hW.at (i := 1) rfl
    obtain ⟨Q, hQ⟩ : ∃ Q, WP.ofW 1 ((n0 + 1 : Nat) : Int) = Q := ⟨_, rfl⟩
    have hE1 : allE (Int.toNat 30) [] 1 n0 = 0 := by unfold allE; rw [if_neg (by omega), if_neg (by simp [AP.sz]; omega)]
    have hW1 : allW (Int.toNat 30) [] 1 n0 = 1 := by unfold allW; rw [if_pos hE1]; decide
    have hT1 : allT (Int.toNat 30) [] 1 l0 = [⟨1, l0⟩] := by unfold allT; rw [hlen0, if_pos hE1]; rfl
    have hsz1 : AP.sz [(⟨1, l0⟩ : AP.Th)] = n0 + 1 := by simp [AP.sz, hlen0]
    have hE2 : allE (Int.toNat 30) [⟨1, l0⟩] 2 n1 = 0 := by unfold allE; rw [if_neg (by omega), if_neg (by rw [hsz1]; simp; omega)]
    have hW2 : allW (Int.toNat 30) [⟨1, l0⟩] 2 n1 = Q := by unfold allW; rw [if_pos hE2, hsz1, hQ]
    have hT2 : allT (Int.toNat 30) [⟨1, l0⟩] 2 l1 = two l0 l1 := by unfold allT; rw [hlen1, if_pos hE2]; rfl
    have HAl1 := Lib.hid (alloc_to (hA1.far hFc (by simp) (by simp) (by simp)) 1 (some ⟨b0, 0, none⟩) n0 n0 l0 1 0 _ hlen0 (by omega) hu0 hW1 hE1 hT1 (MM.Src.row hB0 (by simp; omega) _ (fun _ _ hu => hu)))
    have HAl2 := Lib.hid (fun (w2 : World) (hA2 : Ar w2 p g h (Int.toNat 30) [⟨1, l0⟩]) (hF2 : MM.Far [p, g, h] wc w2) =>
      alloc_to hA2 2 (some ⟨b1, 0, none⟩) n1 n1 l1 Q 0 _ hlen1 (by omega) hu1 hW2 hE2 hT2 (MM.Src.row (hB1.far hF2 (by simp; omega)) (by simp; omega) _ (fun _ _ hu => hu)))
    have s1 := hFc.size
    have hdw : wb ∉ [p, g, h] := by
      have := hA1.far hFc (by simp) (by simp) (by simp)
      have e1 := hW.ne this.head (by decide); have e2 := hW.ne this.words (by decide); have e3 := hW.ne this.kinds (by decide)
      simp; omega
    have hd0 : b0 ∉ [p, g, h] := by simp; omega
    have hd1 : b1 ∉ [p, g, h] := by simp; omega
    have HFc := Lib.hid (hF01.trans hFc (by simp))
    have HW := Lib.hid hW
    have HB0 := Lib.hid hB0
    have HB1 := Lib.hid hB1
    clear hE1 hW1 hT1 hE2 hW2 hT2 hsz1 hl0 hl1 hn0 hn1 hFc hF0 hF1 hF01 hW hB0 hB1 hA1
    go_wp2_with (first
      | (go_at_call 26
         (with_reducible refine HAl1.out.mono ?_)
         rintro e w2 ⟨rfl, hA2, hF2⟩
         have HW2 := Lib.hid (HW.out.far hF2 hdw)
         have r0 := HW2.out.at (i := 0) rfl
         have r1 := HW2.out.at (i := 1) rfl
         have HA2 := Lib.hid hA2
         have HF2 := Lib.hid hF2
         clear hA2 hF2)
      | (go_at_call 26
         (with_reducible refine (HAl2.out w2 HA2.out HF2.out).mono ?_)
         rintro e w3 ⟨rfl, hA3, hF3⟩
         have HF3 := Lib.hid (HF2.out.trans hF3 (fun b hb _ => hb))
         have HA3 := Lib.hid hA3
         clear hA3 hF3))
    have hF3 := HF3.out
    have hF03 := HFc.out.trans hF3 (by simp; omega)
    have hX := MM.Row.new w3 60 [.int .u64 1, .int .u64 Q]
    have hfa := (MM.Far.refl [] w3).alloc (.cells #[.int .u64 1, .int .u64 Q] 60)
    have f4 := hF03.trans hfa (by simp)
    refine (few_any a len cap tl _ ⟨HZ.out.len_, HZ.out.le, HZ.out.max, HZ.out.nil, fun i t ht => by
      obtain ⟨b, off, e1, e2, e3, e4⟩ := HZ.out.elems i t ht
      exact ⟨b, off, e1, Nat.lt_of_lt_of_le e2 f4.size, fun j u hu => by rw [f4.cell (p := ⟨b, off + i * 6 + j, none⟩) e2 (by simp)]; exact e3 j u hu, ⟨e4.hk, e4.hn, e4.hi, e4.hw, e4.hx, e4.hz.far f4⟩⟩⟩).mono ?_
    rintro e w5 ⟨fv, rfl, hG⟩
    obtain ⟨fl, hfl⟩ : ∃ fl, gathered tl len = fl := ⟨_, rfl⟩
    have hfl80 := gathered_le tl len
    obtain ⟨B, hB⟩ : ∃ B, (w3.alloc (.cells #[.int .u64 1, .int .u64 Q] 60)).heap.size = B := ⟨_, rfl⟩
    have hS : Sv w w5 B p g h wb b0 b1 w3.heap.size fv fl n0 n1 Q l0 l1 := by
      have f35 := hfa.trans hG.2 (by simp)
      refine ⟨HA3.out.far f35 (by simp) (by simp) (by simp), (HW.out.far hF3 hdw).far f35 (by simp), (HB0.out.far hF3 hd0).far f35 (by simp), (HB1.out.far hF3 hd1).far f35 (by simp), hX.far hG.2 (by simp), ?_, hlen0, hlen1, ⟨hne, by omega, by omega⟩, by omega, hF03.trans f35 (by simp)⟩
      rw [← hfl, ← hB]; exact hG.1
    rw [hfl] at hfl80
    have HFl := Lib.hid hfl
    have hQ2 : WP.ofW 1 ((l0.length + 1 : Nat) : Int) = Q := by rw [hlen0]; exact hQ
    have HQ := Lib.hid hQ
    have HS := Lib.hid hS
    clear hfl hB hG hX hfa f4 hF03 hF3 q0 q1 r0 r1 hQ hQ2 hu0 hu1 hlen0 hlen1 hS hp hg hh
    obtain ⟨cf, Af, e, _⟩ : ∃ cf Af, fv = .slice Af fl.length cf ∧ True := by
      obtain ⟨A', c', e, _⟩ := MO.form HS.out.few
      exact ⟨c', A', e, trivial⟩
    subst e
    generalize w3.heap.size = ab at HS ⊢
    go_wp2_with (fail)
    go_loopw [69] (fun s69 wr => ∃ (k : Nat) (l0 l1 : List Int), k ≤ fl.length ∧ s69 = .int .i64 k ∧ Sv w wr B p g h wb b0 b1 ab (.slice Af fl.length cf) fl n0 n1 Q l0 l1) (fun s69 _ => fl.length - (intOf s69).toNat)
    case atStart => exact ⟨0, l0, l1, Nat.zero_le _, rfl, HS.out⟩
    case round =>
      clear HS
      obtain ⟨k, l0, l1, hk, rfl, hS⟩ := hrel
      by_cases hlt : k < fl.length
      · have hf0 := hS.few
        obtain ⟨A', c', e, _, _, _, _, hcf⟩ := MO.form hf0
        cases e
        rcases hcf with ⟨_, h1, _⟩ | ⟨gf, rfl, hgf1, hgf2⟩
        · omega
        obtain ⟨t, ht⟩ : ∃ t, fl[k] = t := ⟨_, rfl⟩
        have hfine := fine_of HZ.out len (t := t) (by rw [HFl.out, ← ht]; exact List.getElem_mem hlt)
        have hcl : ∀ (j : Nat) (u : Value), t.cells[j]? = some u → wr.cell? ⟨gf, k * 6 + j, none⟩ = some u := by
          intro j u hu
          have hj : j < 6 := (List.getElem?_eq_some_iff.1 hu).1
          rw [hS.few.cellAt (k * 6 + j) (by omega)]
          exact flat_at fl hlt (by rw [ht]; exact hu)
        obtain ⟨tk, tn, ti, tw, tx, tA, tl2, tc, tzs⟩ := t
        have c0 := hcl 0 _ rfl
        have c1 := hcl 1 _ rfl
        have c2 := hcl 2 _ rfl
        have c3 := hcl 3 _ rfl
        have c4 := hcl 4 _ rfl
        have c5 := hcl 5 _ rfl
        rw [Nat.add_zero] at c0
        simp only at c0 c1 c2 c3 c4 c5
        have hk8 := hfine.hk
        simp only at hk8
        have HFine := Lib.hid hfine
        have hSW := hS.new ((MM.Far.refl [] wr).alloc (.cells #[.int .u8 tk, .int .i64 tn, .int .i64 ti, .int .u64 tw, .int .u64 tx, .slice tA tl2 tc] 63))
        have hX := MM.Row.new wr 63 [.int .u8 tk, .int .i64 tn, .int .i64 ti, .int .u64 tw, .int .u64 tx, .slice tA tl2 tc]
        have hkb : k ≤ 80 := by omega
        clear hcl ht hfine hf0 hS
        go_upto_region 14 with (fail)
        obtain ⟨xb, hxb⟩ : ∃ xb, xb = wr.heap.size := ⟨_, rfl⟩
        obtain ⟨W, hW⟩ : ∃ W, W = wr.alloc (.cells #[.int .u8 tk, .int .i64 tn, .int .i64 ti, .int .u64 tw, .int .u64 tx, .slice tA tl2 tc] 63) := ⟨_, rfl⟩
        rw [← hW] at hSW
        rw [← hxb] at hX ⊢
        rw [show wr.alloc (.cells [.int .u8 tk, .int .i64 tn, .int .i64 ti, .int .u64 tw, .int .u64 tx, .slice tA tl2 tc].toArray 63) = W from hW.symm] at hX
        rw [← hW]
        have HXW := Lib.hid hX
        clear hW hxb c0 c1 c2 c3 c4 c5 hX
        obtain ⟨ii, hii⟩ : ∃ ii : Nat, ti % 16 = ii := ⟨(ti % 16).toNat, by omega⟩
        have hi15 : ii ≤ 15 := by omega
        have hand := and15 ti
        rw [hii] at hand
        clear hii
        have hk01 : tk % 2 = 0 ∨ tk % 2 = 1 := by omega
        rcases hk01 with hk2 | hk2
        · have hkk : bits .and .u8 tk 1 = 0 := by rw [and1]; exact hk2
          obtain ⟨hlk0, hlk1⟩ := two_look (Q := Q) hSW.ar.ok (by rw [hSW.len0]; exact HQ.out)
          have hcz := HXW.out.at (i := 0) rfl
          have hc2 := HXW.out.at (i := 2) rfl
          have hc4 := HXW.out.at (i := 4) rfl
          have HSW := Lib.hid hSW
          have hat := at0 hlk0 ii tx
          rw [HSW.out.len0] at hat
          have HPu : Hid (WP.U 1) := (by show WP.U 1; unfold WP.U; omega)
          clear hSW hlk0 hlk1
          go_region
          all_goals
            go_wp2_with (fail)
            have dd := Lib.hid (((MM.Far.refl [] W).drew).drew)
            have ca := (HSW.out.new dd.out).at_.at (i := 0) rfl
            have cw := (HSW.out.new dd.out).want.at (i := 0) rfl
            have cx : W.drew.drew.cell? ⟨xb, 4, none⟩ = some (.int .u64 tx) := hc4
            have HX5 := Lib.hid (fun (w6 : World) (f : MM.Far [g] W.drew.drew w6) => (HXW.out.far dd.out (by simp)).far f (by
              have := HXW.out.ne HSW.out.ar.words (by decide)
              simpa using this))
            by_cases hin : ii < n0
            · obtain ⟨g1, g2, _⟩ := hat.1 hin
              have hSet := set_any (HSW.out.new dd.out).ar 1 HPu.out ii tx HFine.out.hx
              rw [g1, g2] at hSet
              have HSet := Lib.hid hSet
              have i1 : (ii : Int) < (n0 : Int) := by omega
              clear hSet g1 g2 hat
              go_region_held3 (fun w' => w'.cell? ⟨ab, 0, none⟩ = some (.int .u64 1) ∧ w'.cell? ⟨wb, 0, none⟩ = some (.slice (some ⟨b0, 0, none⟩) n0 n0) ∧ w'.cell? ⟨xb, 4, none⟩ = some (.int .u64 tx)) (go_keep) (first
                | (go_at_call 27
                   (with_reducible refine HSet.out.mono ?_)
                   rintro e w6 ⟨rfl, hA6, hF6⟩
                   have HR6 := Lib.hid ((HSW.out.new dd.out).rest hF6)
                   have y0 := HR6.out.2.2.2.1.at (i := 0) rfl
                   have y1 := HR6.out.1.at (i := 0) rfl
                   have y2 := (HX5.out w6 hF6).at (i := 4) rfl
                   have HE := Lib.hid ((HSW.out.new dd.out).put0 (w' := w6.drew) hF6.drew (hA6.far ((MM.Far.refl [] w6).drew) (by simp) (by simp) (by simp)))
                   have yc : ∃ o, w6.drew.cell? ⟨b0, ii, none⟩ = some o := by
                     have hr := HR6.out.2.1
                     have := hr.cell ii
                     rw [show w6.drew.cell? ⟨b0, ii, none⟩ = w6.cell? ⟨b0, ii, none⟩ from rfl, this]
                     exact ⟨_, List.getElem?_eq_getElem (by simp [U64s, HSW.out.len0]; omega)⟩
                   obtain ⟨oc, yc⟩ := yc
                   have yf : w6.drew.frozen? ⟨b0, ii, none⟩ = false := HR6.out.2.1.frozen ii
                   clear hA6 hF6))
              all_goals
                go_wp2_with (fail)
                have v1 : w6.drew.cell? ⟨wb, 0, none⟩ = some (.slice (some ⟨b0, 0, none⟩) n0 n0) := y1
                have v2 : w6.drew.cell? ⟨xb, 4, none⟩ = some (.int .u64 tx) := y2
                go_region
                all_goals
                  go_wp2_with (fail)
                  go_roundw
                  case rel => exact ⟨k + 1, _, _, by omega, by go_num, HE.out⟩
                  case measure => simp [intOf]; omega
            · obtain ⟨g1, g2⟩ := hat.2 hin
              have hSet := set_any (HSW.out.new dd.out).ar 1 HPu.out ii tx HFine.out.hx
              rw [g1, g2] at hSet
              have HSet := Lib.hid hSet
              have i1 : ¬ (ii : Int) < (n0 : Int) := by omega
              clear hSet g1 g2 hat
              go_region_held3 (fun w' => w'.cell? ⟨ab, 0, none⟩ = some (.int .u64 1) ∧ w'.cell? ⟨wb, 0, none⟩ = some (.slice (some ⟨b0, 0, none⟩) n0 n0) ∧ w'.cell? ⟨xb, 4, none⟩ = some (.int .u64 tx)) (go_keep) (first
                | (go_at_call 27
                   (with_reducible refine HSet.out.mono ?_)
                   rintro e w6 ⟨rfl, hA6, hF6⟩
                   have HR6 := Lib.hid ((HSW.out.new dd.out).rest hF6)
                   have y0 := HR6.out.2.2.2.1.at (i := 0) rfl
                   have y1 := HR6.out.1.at (i := 0) rfl
                   have y2 := (HX5.out w6 hF6).at (i := 4) rfl
                   have HE := Lib.hid ((HSW.out.new dd.out).stay hF6 hA6)
                   clear hA6 hF6))
              all_goals
                go_wp2_with (fail)
                go_roundw
                case rel => exact ⟨k + 1, _, _, by omega, by go_num, HE.out⟩
                case measure => simp [intOf]; omega
        · have hkk : bits .and .u8 tk 1 = 1 := by rw [and1]; exact hk2
          obtain ⟨hlk0, hlk1⟩ := two_look (Q := Q) hSW.ar.ok (by rw [hSW.len0]; exact HQ.out)
          have hcz := HXW.out.at (i := 0) rfl
          have hc2 := HXW.out.at (i := 2) rfl
          have hc4 := HXW.out.at (i := 4) rfl
          have HSW := Lib.hid hSW
          have hat := at1 hlk1 ii tx
          rw [HSW.out.len1] at hat
          have HPu : Hid (WP.U Q) := (by show WP.U Q; rw [← HQ.out]; exact WP.ofW_u _ _)
          clear hSW hlk0 hlk1
          go_region
          all_goals
            go_wp2_with (fail)
            have dd := Lib.hid (((MM.Far.refl [] W).drew).drew)
            have ca := (HSW.out.new dd.out).at_.at (i := 1) rfl
            have cw := (HSW.out.new dd.out).want.at (i := 1) rfl
            have cx : W.drew.drew.cell? ⟨xb, 4, none⟩ = some (.int .u64 tx) := hc4
            have HX5 := Lib.hid (fun (w6 : World) (f : MM.Far [g] W.drew.drew w6) => (HXW.out.far dd.out (by simp)).far f (by
              have := HXW.out.ne HSW.out.ar.words (by decide)
              simpa using this))
            by_cases hin : ii < n1
            · obtain ⟨g1, g2, _⟩ := hat.1 hin
              have hSet := set_any (HSW.out.new dd.out).ar Q HPu.out ii tx HFine.out.hx
              rw [g1, g2] at hSet
              have HSet := Lib.hid hSet
              have i1 : (ii : Int) < (n1 : Int) := by omega
              clear hSet g1 g2 hat
              go_region_held3 (fun w' => w'.cell? ⟨ab, 1, none⟩ = some (.int .u64 Q) ∧ w'.cell? ⟨wb, 1, none⟩ = some (.slice (some ⟨b1, 0, none⟩) n1 n1) ∧ w'.cell? ⟨xb, 4, none⟩ = some (.int .u64 tx)) (go_keep) (first
                | (go_at_call 27
                   (with_reducible refine HSet.out.mono ?_)
                   rintro e w6 ⟨rfl, hA6, hF6⟩
                   have HR6 := Lib.hid ((HSW.out.new dd.out).rest hF6)
                   have y0 := HR6.out.2.2.2.1.at (i := 1) rfl
                   have y1 := HR6.out.1.at (i := 1) rfl
                   have y2 := (HX5.out w6 hF6).at (i := 4) rfl
                   have HE := Lib.hid ((HSW.out.new dd.out).put1 (w' := w6.drew) hF6.drew (hA6.far ((MM.Far.refl [] w6).drew) (by simp) (by simp) (by simp)))
                   have yc : ∃ o, w6.drew.cell? ⟨b1, ii, none⟩ = some o := by
                     have hr := HR6.out.2.2.1
                     have := hr.cell ii
                     rw [show w6.drew.cell? ⟨b1, ii, none⟩ = w6.cell? ⟨b1, ii, none⟩ from rfl, this]
                     exact ⟨_, List.getElem?_eq_getElem (by simp [U64s, HSW.out.len1]; omega)⟩
                   obtain ⟨oc, yc⟩ := yc
                   have yf : w6.drew.frozen? ⟨b1, ii, none⟩ = false := HR6.out.2.2.1.frozen ii
                   clear hA6 hF6))
              all_goals
                go_wp2_with (fail)
                have v1 : w6.drew.cell? ⟨wb, 1, none⟩ = some (.slice (some ⟨b1, 0, none⟩) n1 n1) := y1
                have v2 : w6.drew.cell? ⟨xb, 4, none⟩ = some (.int .u64 tx) := y2
                go_region
                all_goals
                  go_wp2_with (fail)
                  go_roundw
                  case rel => exact ⟨k + 1, _, _, by omega, by go_num, HE.out⟩
                  case measure => simp [intOf]; omega
            · obtain ⟨g1, g2⟩ := hat.2 hin
              have hSet := set_any (HSW.out.new dd.out).ar Q HPu.out ii tx HFine.out.hx
              rw [g1, g2] at hSet
              have HSet := Lib.hid hSet
              have i1 : ¬ (ii : Int) < (n1 : Int) := by omega
              clear hSet g1 g2 hat
              go_region_held3 (fun w' => w'.cell? ⟨ab, 1, none⟩ = some (.int .u64 Q) ∧ w'.cell? ⟨wb, 1, none⟩ = some (.slice (some ⟨b1, 0, none⟩) n1 n1) ∧ w'.cell? ⟨xb, 4, none⟩ = some (.int .u64 tx)) (go_keep) (first
                | (go_at_call 27
                   (with_reducible refine HSet.out.mono ?_)
                   rintro e w6 ⟨rfl, hA6, hF6⟩
                   have HR6 := Lib.hid ((HSW.out.new dd.out).rest hF6)
                   have y0 := HR6.out.2.2.2.1.at (i := 1) rfl
                   have y1 := HR6.out.1.at (i := 1) rfl
                   have y2 := (HX5.out w6 hF6).at (i := 4) rfl
                   have HE := Lib.hid ((HSW.out.new dd.out).stay hF6 hA6)
                   clear hA6 hF6))
              all_goals
                go_wp2_with (fail)
                go_roundw
                case rel => exact ⟨k + 1, _, _, by omega, by go_num, HE.out⟩
                case measure => simp [intOf]; omega
      · have HS := Lib.hid hS
        clear hS hk
        go_wp2_with (fail)
        clear hlt
        go_loopw [110] (fun s110 w2 => ∃ j : Int, (j = 0 ∨ j = 1 ∨ j = 2) ∧ s110 = .int .i64 j ∧ Sv w w2 B p g h wb b0 b1 ab (.slice Af fl.length cf) fl n0 n1 Q l0 l1) (fun s110 _ => 2 - (intOf s110).toNat)
        case atStart => exact ⟨0, .inl rfl, rfl, HS.out⟩
        case round =>
          clear HS
          obtain ⟨j, hj3, rfl, hS2⟩ := hrel
          rcases hj3 with rfl | rfl | rfl
          · have cw := hS2.want.at (i := 0) rfl
            have HS2 := Lib.hid hS2
            clear hS2
            go_wp2_with (fail)
            go_loopw [117] (fun s117 w3 => ∃ i : Nat, i ≤ n0 ∧ s117 = .int .i64 i ∧ Sv w w3 B p g h wb b0 b1 ab (.slice Af fl.length cf) fl n0 n1 Q l0 l1) (fun s117 _ => n0 - (intOf s117).toNat)
            case atStart => exact ⟨0, Nat.zero_le _, rfl, HS2.out⟩
            case round =>
              clear cw HS2
              obtain ⟨i, hi, rfl, hS3⟩ := hrel
              by_cases hlin : i < n0
              · obtain ⟨hlk0, hlk1⟩ := two_look (Q := Q) hS3.ar.ok (by rw [hS3.len0]; exact HQ.out)
                obtain ⟨_, g2, g3⟩ := (at0 hlk0 i 0).1 (by rw [hS3.len0]; exact hlin)
                have hil : i < l0.length := by rw [hS3.len0]; exact hlin
                have hc := MW.row_word hS3.r0 hil
                have ca := hS3.at_.at (i := 0) rfl
                have hgd : l0.getD i 0 = l0[i] := by simp [List.getD, hil]
                have HG := Lib.hid (get_to hS3.ar 1 i (l0[i]) 0 (by unfold WP.U; omega) (by rw [g3, hgd]) g2)
                generalize l0[i] = y at hc HG
                have HS3 := Lib.hid hS3
                clear hS3 hlk0 hlk1 g2 g3 hil hgd
                go_wp2_with (first
                  | (go_at_call 22; (with_reducible refine HG.out.mono ?_); rintro e w' ⟨rfl, rfl⟩))
                go_roundw
                case rel => first | exact ⟨i + 1, by omega, by go_num, HS3.out⟩ | ((repeat apply Exists.intro); exact ⟨⟨i + 1, by omega, by go_num, HS3.out⟩, rfl⟩)
                case measure => simp [intOf]; omega
              · have HS3 := Lib.hid hS3
                clear hS3
                go_wp2_with (fail)
                go_roundw
                case rel => exact ⟨1, by omega, by go_num, HS3.out⟩
                case measure => simp [intOf]
          · have cw := hS2.want.at (i := 1) rfl
            have HS2 := Lib.hid hS2
            clear hS2
            go_wp2_with (fail)
            go_loopw [117] (fun s117 w3 => ∃ i : Nat, i ≤ n1 ∧ s117 = .int .i64 i ∧ Sv w w3 B p g h wb b0 b1 ab (.slice Af fl.length cf) fl n0 n1 Q l0 l1) (fun s117 _ => n1 - (intOf s117).toNat)
            case atStart => exact ⟨0, Nat.zero_le _, rfl, HS2.out⟩
            case round =>
              clear cw HS2
              obtain ⟨i, hi, rfl, hS3⟩ := hrel
              by_cases hlin : i < n1
              · obtain ⟨hlk0, hlk1⟩ := two_look (Q := Q) hS3.ar.ok (by rw [hS3.len0]; exact HQ.out)
                obtain ⟨_, g2, g3⟩ := (at1 hlk1 i 0).1 (by rw [hS3.len1]; exact hlin)
                have hil : i < l1.length := by rw [hS3.len1]; exact hlin
                have hc := MW.row_word hS3.r1 hil
                have ca := hS3.at_.at (i := 1) rfl
                have hgd : l1.getD i 0 = l1[i] := by simp [List.getD, hil]
                have HG := Lib.hid (get_to hS3.ar Q i (l1[i]) 0 (by rw [← HQ.out]; exact WP.ofW_u _ _) (by rw [g3, hgd]) g2)
                generalize l1[i] = y at hc HG
                have HS3 := Lib.hid hS3
                clear hS3 hlk0 hlk1 g2 g3 hil hgd
                go_wp2_with (first
                  | (go_at_call 22; (with_reducible refine HG.out.mono ?_); rintro e w' ⟨rfl, rfl⟩))
                go_roundw
                case rel => first | exact ⟨i + 1, by omega, by go_num, HS3.out⟩ | ((repeat apply Exists.intro); exact ⟨⟨i + 1, by omega, by go_num, HS3.out⟩, rfl⟩)
                case measure => simp [intOf]; omega
              · have HS3 := Lib.hid hS3
                clear hS3
                go_wp2_with (fail)
                go_roundw
                case rel => exact ⟨2, by omega, by go_num, HS3.out⟩
                case measure => simp [intOf]
          · have c0 := hS2.want.at (i := 0) rfl
            have c1 := hS2.want.at (i := 1) rfl
            have hd := (MM.Far.refl [] wr).drew
            have HU := Lib.hid (used_to ((hS2.new hd).ar) (2 + (n0 : Int) + (n1 : Int)) (by
              have e0 := hS2.len0; have e1 := hS2.len1
              simp [two, AP.sz]; omega))
            have HB := Lib.hid ((hS2.new hd).far.below_nil)
            have i1 : IntKind.i64.wrap (2 + (n0 : Int)) = 2 + (n0 : Int) := IntWalk.i64_in _ (by omega)
            have i2 : IntKind.i64.wrap (2 + (n0 : Int) + (n1 : Int)) = 2 + (n0 : Int) + (n1 : Int) := IntWalk.i64_in _ (by omega)
            clear hS2 hd
            go_wp2_with (fail)
            go_region_held3 (fun w' => w'.cell? ⟨wb, 0, none⟩ = some (.slice (some ⟨b0, 0, none⟩) n0 n0) ∧ w'.cell? ⟨wb, 1, none⟩ = some (.slice (some ⟨b1, 0, none⟩) n1 n1)) (go_keep) (first
              | (go_at_call 23; (with_reducible refine HU.out.mono ?_); rintro e w' ⟨rfl, rfl⟩))
            all_goals
              go_wp2_with (fail)
              go_ret
              exact ⟨rfl, HB.out⟩
end AL
end Go.Proofs.Ytokpiljbcbemlaa
