/-
  Contract of the document's Live. Condition: its arena is as the list of things says.
-/
import Derived.Test.YtcfepiihjbbnaaaMoveRef3
import Derived.Test.YtcfepiihjbbnaaaMoveWalks5
import Derived.Deep.DeepCutAuto
namespace Go.Proofs.Ytcfepiihjbbnaaa
open Go.RowKit
namespace MW
open AW AP RP RW
theorem things_le {n : Nat} {ts : List Th} (hO : Ok n ts) : ts.length ≤ 65536 := by
  have := len_le_sz ts
  have := hO.room
  have := hO.size
  omega
theorem bring_to {w0 w : World} {ba qa n : Nat} {va : Value} {ts : List Th} {ha : List Value} {bb qb : Nat} {vb : Value} {hb : List Value} {wb : Nat} {s s' : MP.St} (hB : Bg w0 w ba qa n va ts ha bb qb vb hb wb s) {N : Nat} (hN : ts.length = N) {x y : Int} (hx : WP.U x) (hy : MP.cwW ts s x = y) (hs : MP.cwS ts s x = s') :
    Calls Try.prog 25 #[ptr qa, ptr qb, .slice (some ⟨wb, 0, none⟩) N N, .int .u64 x] w fun e w' => e = .returned (.int .u64 y) ∧ ∃ vb' hb', Bg w0 w' ba qa n va ts ha bb qb vb' hb' wb s' ∧ MM.Far (wb :: qb :: vb.ownBlock.toList) w w' ∧ (∀ b, vb'.ownBlock = some b → vb.ownBlock = some b ∨ w.heap.size ≤ b) ∧ (∀ z ∈ hb', z ∈ hb ∨ ∀ b, z.ownBlock = some b → w.heap.size ≤ b) := by
  subst hy
  subst hs
  exact bring_any hB hN hx
section
variable {w : World} {ba qa n : Nat} {va : Value} {ts : List Th} {ha : List Value}
set_option maxHeartbeats 4000000 in
theorem rlive_any (hR : Rr w ba qa n va ts ha) (roots : List Int) (A : Option Addr) (m c : Nat) (hm : roots.length = m) (hm4 : m ≤ 65536) (hs : MM.Src w [] A (U64s roots)) (hu : ∀ x ∈ roots, WP.U x) :
    Calls Try.prog 8 #[ptr qa, .slice A m c] w (RLived w n ts roots) := by
  subst hm
  have hN6 := things_le hR.ok
  have a0 := hR.head.at (i := 0) rfl
  have a2 := hR.head.at (i := 2) rfl
  have hqa := hR.head.lt
  have HBeg := Lib.hid (bo_begin hR)
  obtain ⟨A0, c0, e, _⟩ := MO.form hR.row
  rw [e] at a2
  obtain ⟨N, hN⟩ : ∃ N, ts.length = N := ⟨_, rfl⟩
  rw [hN] at a2 hN6 HBeg
  have hm1 := run_make_row' (P := Try.prog) 23 42 (.int .u64 0) 8 words_slice word_info rfl .i64 .i64 N (by omega) (by omega)
  have HN := Lib.hid hN
  have HS := Lib.hid hs
  have HU := Lib.hid hu
  have HR := Lib.hid hR
  clear hR hs hu hN e
  go_enter Try.func8, Try.ntmps8
  go_wp2_with (fail)
  go_loopw [8, 9] (fun s8 s9 wr => ∃ (k : Nat) (vb : Value) (hb : List Value) (vo : Value), k ≤ roots.length ∧ s9 = .int .i64 k ∧ vo = s8 ∧ Bo w wr ba qa n va ts ha (w.heap.size + 2) w.heap.size vb hb (w.heap.size + 1) (MP.rts ts ⟨[], []⟩ (roots.take k)) vo (MP.rtw ts ⟨[], []⟩ (roots.take k))) (fun _ s9 _ => roots.length - (intOf s9).toNat)
  case atStart => exact ⟨0, _, _, _, Nat.zero_le _, rfl, rfl, HBeg.out⟩
  case round =>
    obtain ⟨k, vb, hb, vo, hk, rfl, rfl, hB⟩ := hrel
    clear a0 a2 hm1 hqa
    by_cases hlt : k < roots.length
    · obtain ⟨rb, off, rfl, hrb, _, hcs⟩ := src_at HS.out (by omega)
      have hcell : wr.cell? ⟨rb, off + k, none⟩ = some (.int .u64 roots[k]) := by
        rw [hB.bg.far0.cell (p := ⟨rb, off + k, none⟩) hrb (by simp)]; exact hcs k hlt
      have HW := Lib.hid (bring_to hB.bg HN.out (HU.out _ (List.getElem_mem hlt)) rfl rfl)
      have hlen : (MP.rtw ts ⟨[], []⟩ (roots.take k)).length = k := by rw [MP.rtw_len]; simp; omega
      have HL := Lib.hid hlen
      have HB := Lib.hid hB
      have HS1 := Lib.hid (rtw_snoc ts ⟨[], []⟩ roots k hlt)
      have HS2 := Lib.hid (rts_succ ts ⟨[], []⟩ roots k hlt)
      generalize hLL : MP.rtw ts ⟨[], []⟩ (roots.take k) = LL at HL HB HS1
      generalize hSS : MP.rts ts ⟨[], []⟩ (roots.take k) = SS at HW HB HS1 HS2
      generalize MP.cwW ts SS roots[k] = y at HW HS1
      generalize roots[k] = x at HW HS1 HS2 hcell
      clear hB hcs hlen hLL hSS
      go_wp2_with (first
        | (go_at_call 25; refine HW.out.mono ?_; rintro e w2 ⟨rfl, vb2, hb2, hB2, hF2, hv2, hh2⟩; have HO := Lib.hid (HB.out.brought hB2 hF2 hh2); have hs2 := HO.out.bg.room; clear hB2 hF2 hv2 hh2)
        | (refine MO.wpList_append _ ?_ (.tmp 31) (.tmp 40) 23 ?_ (w.heap.size + 2) 42 (.int .u64 0) 1 8 words_slice word_info rfl (by omega) vo LL.length (U64s LL) ?_ (HO.out.out.alloc _) (some ⟨w2.heap.size, 0, none⟩) 1 1 [.int .u64 y] ?_ rfl (fun h => by cases h) [] (MM.Src.row (S := []) (MM.Row.new w2 42 [.int .u64 y]) (by simp) [.int .u64 y] (fun j u hu => hu)) (u64s_one [y]) ?_ ?_ ?_ ?_
           · rfl
           · rfl
           · rfl
           · rfl
           · rw [HL.out]; simp only [maxLen]; omega
           · rw [HL.out]; omega
           · simp; omega
           intro v1 wG hv1 hg1 hat1))
      go_roundw
      case rel =>
        refine ⟨k + 1, vb2, hb2, v1, by omega, by go_num, rfl, ?_⟩
        rw [HS2.out]
        have F : MM.Far vo.ownBlock.toList w2 wG := ((MM.Far.refl _ w2).alloc (.cells #[.int .u64 y] 42)).trans (MM.Far.of_grown (S := vo.ownBlock.toList) (a := w2.alloc (.cells #[.int .u64 y] 42)) ⟨hg1.os, hg1.tape, hg1.output, hg1.size, hg1.block⟩ (by intro b hb1 _; simp [hb1])) (fun b hb _ => hb)
        have h3 := hv1
        have e1 : U64s LL ++ [.int .u64 y] = U64s (MP.rtw ts ⟨[], []⟩ (roots.take (k + 1))) := by rw [HS1.out]; simp [U64s]
        have e2 : LL.length + 1 = (MP.rtw ts ⟨[], []⟩ (roots.take (k + 1))).length := by rw [HS1.out]; simp
        rw [e1, e2] at h3
        refine HO.out.more F h3 (fun b hb => ?_)
        rcases hat1 with e | e
        · exact .inl (e ▸ hb)
        · rw [e] at hb
          injection hb with hb
          subst hb
          exact .inr (by simp)
      case measure => simp [intOf]; omega
    · obtain rfl : k = roots.length := by omega
      rw [List.take_length] at hB
      have HB := Lib.hid hB
      clear hB hlt hk
      go_wp2_with (fail)
      go_loopw [10] (fun s10 w2 => ∃ (j : Nat) (vb2 : Value) (hb2 : List Value) (sj : MP.St), s10 = .int .i64 j ∧ Ro w w2 ba qa n va ts ha (w.heap.size + 2) w.heap.size (w.heap.size + 1) vo (MP.rtw ts ⟨[], []⟩ roots) (MP.liveS ts roots) j vb2 hb2 sj) (fun s10 _ => 65537 - (intOf s10).toNat)
      case atStart => exact ⟨0, _, _, _, rfl, HB.out, rfl, Nat.zero_le _⟩
      case round =>
        obtain ⟨j, vb2, hb2, sj, rfl, hO⟩ := hrel
        have h2 := hO.bo.bg.dst.head.at (i := 2) rfl
        obtain ⟨A2, c2, e2, _⟩ := MO.form hO.bo.bg.dst.row
        subst e2
        have hcnt := MP.count hO.bo.bg.inv
        rw [HN.out] at hcnt
        by_cases hlt : j < sj.us.length
        · have HO := Lib.hid hO
          obtain ⟨L, hL⟩ : ∃ L, (th sj.us j).l.length = L := ⟨_, rfl⟩
          have hL255 : L ≤ 255 := by rw [← hL]; exact (hO.bo.bg.dst.ok.each j hlt).2.2.1
          have HL := Lib.hid hL
          clear hO hL
          go_wp2_with (fail)
          go_loopw [11] (fun s11 w3 => ∃ (k : Nat) (vb3 : Value) (hb3 : List Value) (sk : MP.St), k ≤ L ∧ s11 = .int .i64 k ∧ Ri w w3 ba qa n va ts ha (w.heap.size + 2) w.heap.size (w.heap.size + 1) vo (MP.rtw ts ⟨[], []⟩ roots) (MP.doTh ts j sj) j L k vb3 hb3 sk) (fun s11 _ => L - (intOf s11).toNat)
          case atStart => exact ⟨0, _, _, sj, Nat.zero_le _, rfl, HO.out.bo, rfl, hlt, HL.out⟩
          case round =>
            obtain ⟨k, vb3, hb3, sk, hk, rfl, hI⟩ := hrel
            clear h2
            have h2 := hI.bo.bg.dst.head.at (i := 2) rfl
            obtain ⟨g, c3, A3, d3, e3, _, _, _, _, hc3, _, hkid, hA3⟩ := hI.bo.bg.dst.at hI.lt
            subst e3
            rw [hI.len] at hc3 hkid hA3
            have hlt3 := hI.lt
            have hcnt3 := MP.count hI.bo.bg.inv
            rw [HN.out] at hcnt3
            by_cases hlk : k < L
            · obtain ⟨gq, rfl, _, _⟩ := hA3 (by omega)
              have hcell : wr.cell? ⟨gq, k, none⟩ = some (.int .u64 ((th sk.us j).l.getD k 0)) := by
                have hk2 : k < (th sk.us j).l.length := by rw [hI.len]; exact hlk
                rw [hkid.cellAt k (by omega)]
                unfold U64s
                rw [List.getElem?_map, List.getElem?_eq_getElem hk2]; simp [List.getD, List.getElem?_eq_getElem hk2]
              have hux : WP.U ((th sk.us j).l.getD k 0) := by
                have hk2 : k < (th sk.us j).l.length := by rw [hI.len]; exact hlk
                rw [show (th sk.us j).l.getD k 0 = (th sk.us j).l[k] by simp [List.getD, List.getElem?_eq_getElem hk2]]
                exact hI.bo.bg.inv.u j hI.lt _ (List.getElem_mem hk2)
              have HW := Lib.hid (bring_to hI.bo.bg HN.out hux rfl rfl)
              have HI := Lib.hid hI
              have HNx := Lib.hid (fun (w4 : World) (bv : Value) (hb4 : List Value) (gq4 d4 : Nat) (hh : hb4[j]? = some (.slice (some ⟨gq4, 0, none⟩) L d4)) hB4 => hI.next (w' := w4) (hb' := hb4) (bv := bv) hlk hux hh hB4)
              have hc1 := (MP.cw_len ts sk ((th sk.us j).l.getD k 0) j hI.lt)
              have HC1 := Lib.hid hc1
              have HLen := Lib.hid hI.len
              generalize MP.fld ts j k sk ((th sk.us j).l.getD k 0) = s9 at HNx
              generalize MP.cwW ts sk ((th sk.us j).l.getD k 0) = y at HW HNx
              generalize MP.cwS ts sk ((th sk.us j).l.getD k 0) = s4 at HW HNx HC1 hc1
              generalize (th sk.us j).l.getD k 0 = x at HW hcell
              clear hI hux hkid hA3 hc1
              go_wp2_with (first
                | (go_at_call 25; refine HW.out.mono ?_; rintro e w4 ⟨rfl, vb4, hb4, hB4, hF4, hv4, hh4⟩
                   have HO4 := Lib.hid (HI.out.bo.brought hB4 hF4 hh4)
                   have k2 := HO4.out.bg.dst.head.at (i := 2) rfl
                   have hcnt4 := MP.count HO4.out.bg.inv
                   rw [HN.out] at hcnt4
                   have hlt4 := HC1.out.1
                   obtain ⟨g4, c4, A4, d4, e4, _, _, _, _, hc4, hhd4, hkid4, hA4⟩ := HO4.out.bg.dst.at HC1.out.1
                   rw [HC1.out.2, HLen.out] at hc4 hhd4 hkid4 hA4
                   subst e4
                   obtain ⟨gq4, rfl, _, _⟩ := hA4 (by omega)
                   have hl4 : (th s4.us j).l.length = L := by rw [HC1.out.2]; exact HLen.out
                   obtain ⟨o4, ho4⟩ : ∃ o, w4.cell? ⟨gq4, k, none⟩ = some o := by
                     rw [hkid4.cellAt k (by omega)]
                     exact ⟨_, List.getElem?_eq_getElem (by simp [U64s]; rw [← HC1.out.2, hl4]; exact hlk)⟩
                   have hz4 := hkid4.frozenAt k
                   have HE := Lib.hid (HNx.out w4 _ hb4 gq4 d4 hhd4 HO4.out)
                   clear hB4 hF4 hv4 hh4 hhd4 hkid4 hA4 hl4))
              go_roundw
              case rel => exact ⟨k + 1, _, _, _, by omega, by go_num, HE.out⟩
              case measure => simp [intOf]; omega
            · obtain rfl : k = L := by omega
              have hskE : sk = MP.doTh ts j sj := by
                have := hI.eq
                rw [← hI.len, List.drop_length] at this
                exact this
              have HNext := Lib.hid (show Ro w wr ba qa n va ts ha (w.heap.size + 2) w.heap.size (w.heap.size + 1) vo (MP.rtw ts ⟨[], []⟩ roots) (MP.liveS ts roots) (j + 1) _ hb3 sk from
                ⟨hI.bo, by rw [← HO.out.eq, show ts.length + 1 - j = (ts.length + 1 - (j + 1)) + 1 by rw [HN.out]; omega, MP.goF_step _ _ _ _ hlt, hskE], hI.lt⟩)
              clear hI hskE hkid hA3 hk
              go_wp2_with (fail)
              go_roundw
              case rel => exact ⟨j + 1, _, _, _, by go_num, HNext.out⟩
              case measure => simp [intOf]; omega
        · have hstop := MP.goF_stop ts (ts.length + 1 - j) j sj hlt
          rw [hO.eq] at hstop
          have HSt := Lib.hid hstop
          have HO := Lib.hid hO
          have hge : sj.us.length ≤ j := by omega
          clear hO hstop
          go_wp2_with (fail)
          go_ret2
          refine ⟨w.heap.size, .slice A2 sj.us.length c2, hb2, vo, rfl, Nat.le_refl _, ?_, ?_, HO.out.bo.bg.far0⟩
          · show Rr _ _ _ _ _ (MP.liveS ts roots).us _
            rw [HSt.out]
            exact HO.out.bo.bg.dst
          · have := HO.out.bo.out
            rw [MP.rtw_len] at this
            exact this
end
end MW
end Go.Proofs.Ytcfepiihjbbnaaa
