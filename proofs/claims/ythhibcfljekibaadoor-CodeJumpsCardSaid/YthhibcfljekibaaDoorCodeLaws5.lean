/-
  The walk of CodeJumps: of a row of jumps each to any place, it may be just if each goes behind itself, within the row. Conditions: the argument's reading, the program's tables.
-/
import Derived.Test.YthhibcfljekibaaDoorCodeApp
import Derived.Test.YthhibcfljekibaaDoorCodeJump
import Derived.Deep.DeepCutAuto
namespace Go.Proofs.YthhibcfljekibaaDoor
open Go.RowKit Go.ChangeShapes Go.WideShapes Go.Deep
set_option linter.unusedVariables false
namespace KW
open KP
theorem u8w5 {x : Int} (h : (Lit.int .u8 x).wf = true) : 0 ≤ x ∧ x ≤ 255 := by
  simp [Lit.wf, IntKind.min, IntKind.max, IntKind.signed, IntKind.bits] at h
  omega
theorem far_new5 {w0 w w' : World} {v : Value} {base : Nat} {t : TypeId} {n : Nat} {xs : List Value} (f : MM.Far [] w0 w) (ho : w.ownsRow base t 4 v n xs) (hb : w0.heap.size ≤ base) (g : MM.Far v.ownBlock.toList w w') : MM.Far [] w0 w' :=
  f.trans g (fun b h1 h2 => by have := (MM.own_lt ho b (by simpa using h1)).2; omega)
theorem wf_plain5 {op a w : Int} (h1 : 0 ≤ op) (h2 : op < 256) (h3 : 0 ≤ a) (h4 : a < 1000) (h5 : 0 ≤ w) (h6 : w < 1000) : Wf ⟨op, a, 0, w⟩ := ⟨h1, h2, ⟨by show _ ≤ a; omega, by show a ≤ _; omega⟩, ⟨by show (_ : Int) ≤ 0; omega, by show (0 : Int) ≤ _; omega⟩, ⟨h5, by show w < _; omega⟩⟩
/-- A slice of small numbers that came in, cell by cell. -/
theorem u8_at {a : Option Addr} {len cap : Nat} {zs : List Int} {w w' : World} (hz : MR.Ints .u8 w a len cap zs) (hF : MM.Far [] w w') (i : Nat) (hi : i < len) : ∃ b off, a = some ⟨b, off, none⟩ ∧ b < w'.heap.size ∧ w'.cell? ⟨b, off + i, none⟩ = some (.int .u8 (zs.getD i 0)) := by
  have hp : 0 < (zs.map (Value.int .u8)).length := by rw [List.length_map, hz.len_]; omega
  obtain ⟨ad, e, _, hl, hc⟩ := (hz.src.far hF (by simp)) hp
  have hil : i < zs.length := by rw [hz.len_]; exact hi
  have h1 := hc i (.int .u8 (zs.getD i 0)) (by rw [List.getElem?_map, List.getElem?_eq_getElem hil]; simp [List.getD, hil])
  have h0 := hc 0 _ (List.getElem?_eq_getElem hp)
  rw [add_zero_] at h0
  obtain ⟨b, off, spot⟩ := ad
  obtain rfl : spot = none := World.cell?_spot h0
  rw [MR.mk_add] at h1
  exact ⟨b, off, e, hl, h1⟩
def jts (zs : List Int) (m : Nat) : List Nat := (zs.take m).map fun z => (z % 16).toNat
theorem jts_next (zs : List Int) (i : Nat) (h : i < zs.length) : jts zs (i + 1) = jts zs i ++ [(zs.getD i 0 % 16).toNat] := by
  unfold jts
  rw [List.take_succ_eq_append_getElem h, List.map_append]
  simp [List.getD, h]
theorem jts_len (zs : List Int) (m : Nat) (h : m ≤ zs.length) : (jts zs m).length = m := by
  unfold jts
  rw [List.length_map, List.length_take]; omega
def jints (l : List Nat) : List Int := l.map fun t : Nat => (t : Int)
set_option maxHeartbeats 16000000 in
set_option maxRecDepth 20000 in
theorem jumps_law (a0 : Option Addr) (len0 cap0 : Nat) (z0 : List Int) (W : World) (w0 : MR.Ints .u8 W a0 len0 cap0 z0) (hT : TT W) :
    Calls Tryd.prog 7 #[.slice a0 len0 cap0] W fun e w' => e = .returned (.bool true) ∧ Below W.heap.size W w' := by
  have HT := Lib.hid hT
  have HZ := Lib.hid w0
  have hle := w0.le
  have hmx := w0.max
  have hnil := w0.nil
  unfold maxLen at hmx
  obtain ⟨m, hm⟩ : ∃ m, m = min len0 12 := ⟨_, rfl⟩
  have hm1 : m ≤ len0 := by omega
  have hm2 : m ≤ 12 := by omega
  have HM := Lib.hid hm
  clear hT w0 hm
  go_enter Tryd.func7, Tryd.ntmps7
  go_upto_region 2 with (first
    | (go_at_call 8
       refine (shown_any _).mono ?_
       rintro e wa ⟨rfl, hFa⟩))
  have HFa := Lib.hid hFa
  clear hFa
  go_cut [4] (fun s4 wx => s4 = .slice a0 m cap0 ∧ wx = wa)
  case first =>
    have hm := HM.out
    cases a0 with
    | none =>
      obtain rfl : cap0 = 0 := hnil rfl
      obtain rfl : len0 = 0 := by omega
      obtain rfl : m = 0 := by omega
      clear hm
      go_wp2
      go_meet
      exact ⟨rfl, rfl⟩
    | some ad =>
      by_cases h26 : len0 ≤ 12
      · obtain rfl : m = len0 := by omega
        clear hm
        go_wp2
        go_meet
        first | exact ⟨rfl, rfl⟩ | (rw [show (min (m : Int) 12).toNat = m from by omega]; exact ⟨rfl, rfl⟩)
      · obtain rfl : m = 12 := by omega
        clear hm
        go_wp2
        go_meet
        first | exact ⟨rfl, rfl⟩ | (rw [show (min (len0 : Int) 12).toNat = 12 from by omega]; exact ⟨rfl, rfl⟩)
  case rest =>
    obtain ⟨rfl, rfl⟩ := hcut
    have HRw := MM.Row.new wc 38 [.int .u8 1, .int .i64 0, .int .i64 0, .int .u64 10]
    have HO0 : Hid ((wc.alloc (.cells #[.int .u8 1, .int .i64 0, .int .i64 0, .int .u64 10] 38)).ownsRow wc.heap.size 38 4 (.slice (some ⟨wc.heap.size, 0, none⟩) 1 1) (1 + 0) (flatI (wF :: jumps (jints (jts z0 0))))) := Lib.hid (MO.of_row HRw (Nat.le_refl _) rfl (by unfold maxLen; omega))
    have F0 : Hid (MM.Far [] wc (wc.alloc (.cells #[.int .u8 1, .int .i64 0, .int .i64 0, .int .u64 10] 38))) := Lib.hid ((MM.Far.refl _ _).alloc _)
    clear HRw
    go_wp2_with (fail)
    go_loopw [5, 6, 26] (fun s5 s6 s26 wr => ∃ (i : Nat) (ok : Bool), i ≤ m ∧ s26 = num i ∧ s6 = .bool ok ∧ Hid (wr.ownsRow wc.heap.size 38 4 s5 (1 + i) (flatI (wF :: jumps (jints (jts z0 i))))) ∧ Hid (ok = onward (m + 2) 1 (jints (jts z0 i))) ∧ Hid (MM.Far [] wc wr)) (fun _ _ s26 _ => m - (intOf s26).toNat)
    case atStart => exact ⟨0, true, by omega, rfl, rfl, HO0, Lib.hid rfl, F0⟩
    case round =>
      obtain ⟨i, ok, hi, rfl, rfl, HO, HK, HFr⟩ := hrel
      by_cases hlt : i < m
      · have hil : i < z0.length := by rw [HZ.out.len_]; omega
        obtain ⟨b, off, rfl, hb, hcell⟩ := u8_at HZ.out (HFa.out.trans HFr.out (by simp)) i (by omega)
        have hw8 : (Lit.int .u8 (z0.getD i 0)).wf = true := HZ.out.wf _ (by rw [List.getD_eq_getElem?_getD, List.getElem?_eq_getElem hil]; exact List.getElem_mem hil)
        obtain ⟨v1, v2⟩ := u8w5 hw8
        have HNx := Lib.hid (jts_next z0 i hil)
        have HLn := Lib.hid (jts_len z0 i (by omega))
        generalize z0.getD i 0 = z at *
        obtain ⟨t, ht⟩ : ∃ t : Nat, z % 16 = t := ⟨(z % 16).toNat, by omega⟩
        have ht16 : t < 16 := by omega
        have hNx := HNx.out
        rw [show (z % 16).toNat = t by omega] at hNx
        have HN2 := Lib.hid hNx
        have HA := Lib.hid (HO.out.alloc (.cells #[.int .u8 9, .int .i64 t, .int .i64 0, .int .u64 0] 38))
        have HSr := Lib.hid (src_new wr [jn t] [.int .u8 9, .int .i64 t, .int .i64 0, .int .u64 0] _ rfl rfl)
        have HFA := Lib.hid (HFr.out.alloc (.cells #[.int .u8 9, .int .i64 t, .int .i64 0, .int .u64 0] 38))
        have s1 := HFr.out.size
        have HK2 : Hid (onward (m + 2) 1 (jints (jts z0 (i + 1))) = (ok && (decide (((i : Int) + 1) < (t : Int)) && decide ((t : Int) < (m : Int) + 2)))) := Lib.hid (by
          rw [hNx, HK.out]
          unfold jints
          rw [List.map_append, List.map_cons, List.map_nil, onward_snoc, List.length_map, HLn.out]
          rw [show (((1 + i : Nat) : Int)) = (i : Int) + 1 by omega, show (((m + 2 : Nat) : Int)) = (m : Int) + 2 by omega])
        clear hNx HNx HLn hw8 HO
        cases ok with
        | false =>
          go_wp2_with (first
            | (refine ins_app ?_ (.tmp 31) (.tmp 36) ?_ wc.heap.size u5 (1 + i) (wF :: jumps (jints (jts z0 i))) ?_ HA.out (some ⟨wr.heap.size, 0, none⟩) 1 1 [jn t] ?_ rfl (fun h => by cases h) HSr.out (by omega) (by simp; omega) ?_
               · rfl
               · rfl
               · rfl
               · rfl
               intro vx wx hvx hgx))
          go_roundw
          case rel => exact ⟨i + 1, false, by omega, by go_num, by first | rfl | (simp; done), Lib.hid (by
            have e : wF :: jumps (jints (jts z0 (i + 1))) = (wF :: jumps (jints (jts z0 i))) ++ [jn t] := by rw [HN2.out]; simp [jints, jumps]
            rw [e]; exact hvx), Lib.hid (by rw [HK2.out]; rfl), Lib.hid (far_new5 HFA.out HA.out (Nat.le_refl _) hgx)⟩
          case measure => simp [intOf]; omega
        | true =>
          by_cases c1 : (i : Int) + 1 < (t : Int)
          · by_cases c2 : (t : Int) < (m : Int) + 2
            · go_wp2_with (first
                | (refine ins_app ?_ (.tmp 31) (.tmp 36) ?_ wc.heap.size u5 (1 + i) (wF :: jumps (jints (jts z0 i))) ?_ HA.out (some ⟨wr.heap.size, 0, none⟩) 1 1 [jn t] ?_ rfl (fun h => by cases h) HSr.out (by omega) (by simp; omega) ?_
                   · rfl
                   · rfl
                   · rfl
                   · rfl
                   intro vx wx hvx hgx))
              go_roundw
              case rel => exact ⟨i + 1, true, by omega, by go_num, by first | rfl | (simp; done), Lib.hid (by
                have e : wF :: jumps (jints (jts z0 (i + 1))) = (wF :: jumps (jints (jts z0 i))) ++ [jn t] := by rw [HN2.out]; simp [jints, jumps]
                rw [e]; exact hvx), Lib.hid (by rw [HK2.out]; rw [decide_eq_true c1, decide_eq_true c2]; rfl), Lib.hid (far_new5 HFA.out HA.out (Nat.le_refl _) hgx)⟩
              case measure => simp [intOf]; omega
  
            · go_wp2_with (first
                | (refine ins_app ?_ (.tmp 31) (.tmp 36) ?_ wc.heap.size u5 (1 + i) (wF :: jumps (jints (jts z0 i))) ?_ HA.out (some ⟨wr.heap.size, 0, none⟩) 1 1 [jn t] ?_ rfl (fun h => by cases h) HSr.out (by omega) (by simp; omega) ?_
                   · rfl
                   · rfl
                   · rfl
                   · rfl
                   intro vx wx hvx hgx))
              go_roundw
              case rel => exact ⟨i + 1, false, by omega, by go_num, by first | rfl | (simp; done), Lib.hid (by
                have e : wF :: jumps (jints (jts z0 (i + 1))) = (wF :: jumps (jints (jts z0 i))) ++ [jn t] := by rw [HN2.out]; simp [jints, jumps]
                rw [e]; exact hvx), Lib.hid (by rw [HK2.out]; rw [decide_eq_true c1, decide_eq_false c2]; rfl), Lib.hid (far_new5 HFA.out HA.out (Nat.le_refl _) hgx)⟩
              case measure => simp [intOf]; omega
  
          · go_wp2_with (first
              | (refine ins_app ?_ (.tmp 31) (.tmp 36) ?_ wc.heap.size u5 (1 + i) (wF :: jumps (jints (jts z0 i))) ?_ HA.out (some ⟨wr.heap.size, 0, none⟩) 1 1 [jn t] ?_ rfl (fun h => by cases h) HSr.out (by omega) (by simp; omega) ?_
                 · rfl
                 · rfl
                 · rfl
                 · rfl
                 intro vx wx hvx hgx))
            go_roundw
            case rel => exact ⟨i + 1, false, by omega, by go_num, by first | rfl | (simp; done), Lib.hid (by
              have e : wF :: jumps (jints (jts z0 (i + 1))) = (wF :: jumps (jints (jts z0 i))) ++ [jn t] := by rw [HN2.out]; simp [jints, jumps]
              rw [e]; exact hvx), Lib.hid (by rw [HK2.out]; rw [decide_eq_false c1]; rfl), Lib.hid (far_new5 HFA.out HA.out (Nat.le_refl _) hgx)⟩
            case measure => simp [intOf]; omega
  
      · obtain rfl : i = m := by omega
        have s1 := HFr.out.size
        have HA := Lib.hid (HO.out.alloc (.cells #[.int .u8 16, .int .i64 0, .int .i64 0, .int .u64 0] 38))
        have HSr := Lib.hid (src_new wr [rt] [.int .u8 16, .int .i64 0, .int .i64 0, .int .u64 0] _ rfl rfl)
        have HFA := Lib.hid (HFr.out.alloc (.cells #[.int .u8 16, .int .i64 0, .int .i64 0, .int .u64 0] 38))
        go_upto_region 12 with (first
          | (refine ins_app ?_ (.tmp 57) (.tmp 59) ?_ wc.heap.size u5 (1 + i) (wF :: jumps (jints (jts z0 i))) ?_ HA.out (some ⟨wr.heap.size, 0, none⟩) 1 1 [rt] ?_ rfl (fun h => by cases h) HSr.out (by omega) (by simp; omega) ?_
             · rfl
             · rfl
             · rfl
             · rfl
             intro vx w2 hvx hgx))
        have HF2 := Lib.hid (far_new5 HFA.out HA.out (Nat.le_refl _) hgx)
        obtain ⟨A, c, rfl, -, k1, k2, -, -, hI⟩ := src_own (l := jprog (jints (jts z0 i))) hvx
        unfold maxLen at k2
        have HI := Lib.hid hI
        have hjl : (jts z0 i).length = i := jts_len z0 i (by rw [HZ.out.len_]; exact hm1)
        have wj : ∀ x ∈ jprog (jints (jts z0 i)), Wf x := by
          intro x hx
          simp only [jprog, jumps, List.mem_append, List.mem_cons, List.mem_map, List.not_mem_nil, or_false] at hx
          rcases hx with (rfl | ⟨t, ht, rfl⟩) | rfl
          · exact wf_plain5 (by decide) (by decide) (by decide) (by decide) (by decide) (by decide)
          · unfold jints jts at ht
            obtain ⟨y, hy, rfl⟩ := List.mem_map.1 ht
            obtain ⟨z, hz, rfl⟩ := List.mem_map.1 hy
            exact wf_plain5 (by decide) (by decide) (by omega) (by omega) (by decide) (by decide)
          · exact wf_plain5 (by decide) (by decide) (by decide) (by decide) (by decide) (by decide)
        have hpl : (jprog (jints (jts z0 i))).length = 1 + i + 1 := by rw [jprog_len]; unfold jints; rw [List.length_map, hjl]; omega
        have mx : ∀ n, n ≤ 2 ^ 63 - 1 → n ≤ maxLen := fun n h => h
        have HC1 := Lib.hid (fun W (h : TT W) (hI : Ir W [] A (jprog (jints (jts z0 i)))) => check_one h W.heap.size rfl (jprog (jints (jts z0 i))) A (1 + i + 1) c hpl (by omega) k1 (mx _ k2) wj hI)
        have HD := Lib.hid (fun W (hI : Ir W [] A (jprog (jints (jts z0 i)))) => depth_any (jprog (jints (jts z0 i))) (1 + i + 1) hpl (by omega) 0 A c W hI)
        have hck := jump_check (jts z0 i)
        rw [hjl] at hck
        rw [show check [⟨0, jprog (jints (jts z0 i))⟩] = _ from hck, show onward (i + 2) 1 ((jts z0 i).map fun t : Nat => (t : Int)) = ok from HK.out.symm] at HC1
        have hjd := jump_depth (jints (jts z0 i))
        rw [show (jints (jts z0 i)).length = i by unfold jints; rw [List.length_map, hjl], ← HK.out] at hjd
        have HTw := Lib.hid (HT.out.far (HFa.out.trans HF2.out (by simp)))
        have HFw := Lib.hid (HFa.out.trans HF2.out (by simp))
        have FIN := Lib.hid (fun wz (f : MM.Far [] W wz) => (f.below_nil : Below W.heap.size W wz))
        obtain ⟨tn, htn⟩ : ∃ tn : Nat, 1 + i + 1 = tn := ⟨_, rfl⟩
        have HTN := Lib.hid htn
        have ht9 : tn < 1000 := by omega
        rw [htn] at HC1 HD
        rw [htn]
        clear HA HSr HFA hvx hgx hI hpl wj hjl hck htn mx HO HFr
        cases ok with
        | false =>
          rw [if_neg (by simp)] at HC1
          rw [hjd.2 rfl] at HD
          clear hjd HK
          go_upto_region 13 with (first
            | (go_at_call 10
               refine (HC1.out _ HTw.out HI.out).mono ?_
               rintro e x1 ⟨rfl, hx1⟩))
          have X1 := Lib.hid (((MM.Far.refl [] w2).alloc (.cells #[num 0, .slice A tn c] 31)).trans hx1 (by simp))
          clear hx1
          go_wp2_with (first
            | (go_at_call 11
               refine (HD.out _ (HI.out.far X1.out (by simp))).mono ?_
               rintro e x4 ⟨v, rfl, hF4, hv, -⟩
               obtain rfl := hv rfl))
          go_loopw [80] (fun s80 wz => s80 = num 0 ∧ x4 = wz) (fun _ _ => 0)
          case atStart => exact ⟨rfl, by first | rfl | trivial⟩
          case round =>
            obtain ⟨rfl, rfl⟩ := hrel
            go_wp2_with (fail)
            go_ret
            exact ⟨by first | rfl | (simp; done), FIN.out _ ((HFw.out.trans X1.out (by simp)).trans hF4 (by simp))⟩
        | true =>
          obtain ⟨e, he, hel, hez⟩ := hjd.1 rfl
          rw [if_pos rfl] at HC1
          rw [he] at HD
          have HEL : Hid (e.length = tn) := Lib.hid (by rw [hel]; have := HTN.out; omega)
          have HEZ : Hid (∀ j, j < tn → at_ e j = 0) := Lib.hid (fun j hj => hez j (by have := HTN.out; omega))
          clear hjd HK he hel hez
          go_upto_region 13 with (first
            | (go_at_call 10
               refine (HC1.out _ HTw.out HI.out).mono ?_
               rintro e2 x1 ⟨rfl, hx1⟩))
          have X1 := Lib.hid (((MM.Far.refl [] w2).alloc (.cells #[num 0, .slice A tn c] 31)).trans hx1 (by simp))
          clear hx1
          go_wp2_with (first
            | (go_at_call 11
               refine (HD.out _ (HI.out.far X1.out (by simp))).mono ?_
               rintro e2 x4 ⟨v, rfl, hF4, -, hv⟩
               obtain ⟨g, rfl, hr, hg⟩ := hv _ rfl
               rw [HEL.out]
               have HR := Lib.hid hr
               have HF4 := Lib.hid hF4
               clear hr hF4 hv hg))
          go_loopw [80] (fun s80 wz => ∃ j : Nat, j ≤ tn ∧ s80 = num j ∧ x4 = wz) (fun s80 _ => tn - (intOf s80).toNat)
          case atStart => exact ⟨0, by omega, rfl, by first | rfl | trivial⟩
          case round =>
            obtain ⟨j, hj, rfl, rfl⟩ := hrel
            by_cases hlt2 : j < tn
            · have hcj : x4.cell? ⟨g, j, none⟩ = some (num 0) := by
                have := HR.out.at (ints_at (j := j) (by rw [HEL.out]; exact hlt2))
                rw [HEZ.out j hlt2] at this
                exact this
              have hgl := HR.out.lt
              go_wp2_with (fail)
              go_roundw
              case rel => exact ⟨j + 1, by omega, by go_num, by first | rfl | trivial⟩
              case measure => simp [intOf]; omega
            · go_wp2_with (fail)
              go_ret
              exact ⟨by first | rfl | (simp; done), FIN.out _ ((HFw.out.trans X1.out (by simp)).trans HF4.out (by simp))⟩
end KW
end Go.Proofs.YthhibcfljekibaaDoor
