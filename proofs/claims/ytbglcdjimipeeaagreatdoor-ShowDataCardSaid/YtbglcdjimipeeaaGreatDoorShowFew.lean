/-
  few of layer 7's laws: the first 60 data, cut. Condition: the argument's reading.
-/
import Derived.Test.YtbglcdjimipeeaaGreatDoorReadLaws6
import Derived.Deep.DeepCutAuto
namespace Go.Proofs.YtbglcdjimipeeaaGreatDoor
open Go.RowKit Go.ChangeShapes Go.WideShapes Go.Deep
set_option linter.unusedVariables false
namespace SW
open LX RX RW6 RM6
/-- The datum as few leaves it. -/
def cut7 (t : Na) : Na := { t with l := min t.l 20, zs := t.zs.take 20, s := t.s.extract 0 (min t.s.size 40) }
def gath7 (tl : List Na) (k : Nat) : List Na := (tl.take (min k 60)).map cut7
def Gath7 (w w' : World) (v : Value) (tl : List Na) (k : Nat) : Prop :=
  w'.ownsRow w.heap.size 57 5 v (gath7 tl k).length (flat (gath7 tl k)) ∧ MM.Far [] w w'
theorem gath7_next (tl : List Na) (k : Nat) (hk : k < tl.length) (h80 : k < 60) : gath7 tl (k + 1) = gath7 tl k ++ [cut7 tl[k]] := by
  unfold gath7
  rw [show min (k + 1) 60 = min k 60 + 1 from by omega, show min k 60 = k from by omega, List.take_succ_eq_append_getElem hk, List.map_append]
  rfl
theorem gath7_stay (tl : List Na) (k : Nat) (h80 : ¬ k < 60) : gath7 tl (k + 1) = gath7 tl k := by
  unfold gath7
  rw [show min (k + 1) 60 = min k 60 from by omega]
theorem gath7_le (tl : List Na) (k : Nat) : (gath7 tl k).length ≤ 60 := by
  unfold gath7
  rw [List.length_map, List.length_take]; omega
theorem strcut_run (s : ByteArray) (q : Nat) (hq : q ≤ s.size) (W : World) : (Instr.slice 9 (.string s) none (some (.int .i64 (q : Int))) none).run Tryz.prog W = .ok (.string (s.extract 0 q)) W := by
  simp [Instr.slice, Instr.sliceBounds, Instr.sliceBound, asIntOf, run_underlying Tryz.underlying9]
  intro h
  omega
set_option maxHeartbeats 2000000 in
set_option maxRecDepth 20000 in
theorem few7_any (a : Option Addr) (len cap : Nat) (tl : List Na) (w : World) (hz : Nas w a len cap tl) :
    Calls Tryz.prog 11 #[.slice a len cap] w fun e w' => ∃ v, e = .returned v ∧ Gath7 w w' v tl len := by
  have hle := hz.le
  have hmax := hz.max
  unfold maxLen at hmax
  have HZ := Lib.hid hz
  clear hz
  go_enter Tryz.func11, Tryz.ntmps11
  go_wp2_with (fail)
  go_loopw [3, 8] (fun v i wr => ∃ k : Nat, k ≤ len ∧ i = .int .i64 k ∧ Gath7 w wr v tl k) (fun _ i _ => len - (intOf i).toNat)
  case atStart => exact ⟨0, Nat.zero_le _, rfl, MO.none_ _ _ _ _, MM.Far.refl _ _⟩
  case round =>
    obtain ⟨k, hk, rfl, hG, hF⟩ := hrel
    by_cases hlt : k < len
    · have hkl : k < tl.length := by rw [HZ.out.len_]; exact hlt
      obtain ⟨b, off, rfl, hb, hcells, hok⟩ := HZ.out.elems k _ (List.getElem?_eq_getElem hkl)
      have hc : ∀ (j : Nat) (u : Value), (tl[k]).cells[j]? = some u → wr.cell? ⟨b, off + k * 5 + j, none⟩ = some u := by
        intro j u hu
        rw [hF.cell (p := ⟨b, off + k * 5 + j, none⟩) hb (by simp)]
        exact hcells j u hu
      obtain ⟨t, ht⟩ : ∃ t, tl[k] = t := ⟨_, rfl⟩
      rw [ht] at hc hok
      obtain ⟨tk, tn, ti, tw, tA, tn2, tc, tzs⟩ := t
      have h0 := hc 0 _ rfl
      have h1 := hc 1 _ rfl
      have h2 := hc 2 _ rfl
      have h3 := hc 3 _ rfl
      have h4 := hc 4 _ rfl
      rw [Nat.add_zero] at h0
      have hIle := hok.hz.le
      have hImx := hok.hz.max
      have hInil := hok.hz.nil
      have hsz := hok.hs
      unfold maxLen at hImx hsz
      simp only at h0 h1 h2 h3 h4 hIle hImx hInil hsz
      have HTK := Lib.hid ht
      clear hc hcells ht hok
      by_cases h80 : k < 60
      · go_upto_region 6 with (fail)
        obtain ⟨m, hm⟩ : ∃ m, m = min tn2 20 := ⟨_, rfl⟩
        have hm1 : m ≤ tn2 := by omega
        have hm2 : m ≤ 20 := by omega
        obtain ⟨q, hq⟩ : ∃ q, q = min tw.size 40 := ⟨_, rfl⟩
        have hq1 : q ≤ tw.size := by omega
        have HM := Lib.hid hm
        have HQ := Lib.hid hq
        have hsl := strcut_run tw q hq1
        obtain ⟨tw', htw⟩ : ∃ tw', tw' = tw.extract 0 q := ⟨_, rfl⟩
        rw [← htw] at hsl
        have HTW := Lib.hid htw
        have htws : tw'.size ≤ 40 := by rw [htw, ByteArray.size_extract]; omega
        clear htw
        go_cut [] (fun wx => wx = (wr.alloc (.cells #[.int .u8 tk, .int .i64 tn, .int .i64 ti, .string tw', .slice tA m tc] 57)).drew)
        case first =>
          have f1 : (if (20 : Int) < (tn2 : Int) then (20 : Int) else (tn2 : Int)) = (m : Int) := by split <;> omega
          have f2 : (if (40 : Int) < (tw.size : Int) then (40 : Int) else (tw.size : Int)) = (q : Int) := by split <;> omega
          have f3 : min (tn2 : Int) 20 = (m : Int) := by omega
          have f4 : min (tw.size : Int) 40 = (q : Int) := by omega
          clear hm hq HTW HM HQ
          cases tA with
          | none =>
            obtain rfl : tc = 0 := hInil rfl
            obtain rfl : tn2 = 0 := by omega
            obtain rfl : m = 0 := by omega
            have f5 : min (0 : Int) 20 = 0 := by decide
            go_region
            all_goals
              go_wp2_with fail
              go_meet
              rfl
          | some ad =>
            go_region
            all_goals
              go_wp2_with fail
              go_meet
              rfl
        case rest =>
          subst hcut
          clear hsl h0 h1 h2 h3 h4 hm hq
          have hGl := gath7_le tl k
          have hfl := flat_len (gath7 tl k)
          have s1 := hF.size
          have HGA := Lib.hid (((hG.alloc (.cells #[.int .u8 tk, .int .i64 tn, .int .i64 ti, .string tw', .slice tA m tc] 57)).alloc (.cells #[.int .u8 tk, .int .i64 tn, .int .i64 ti, .string tw', .slice tA m tc] 57)).drew)
          have HFl := Lib.hid hfl
          have HGO := Lib.hid (MM.own_lt hG)
          clear hG hfl
          go_wp2_with (first
            | (refine MO.wpList_append _ ?_ (.tmp 31) (.tmp 33) 22 ?_ w.heap.size 57 _ 5 64 RC6.nodes_slice RC6.node_info rfl (by omega) _ (gath7 tl k).length (flat (gath7 tl k)) ?_ HGA.out (some ⟨wr.heap.size + 1, 0, none⟩) 1 1 (Na.cells ⟨tk, tn, ti, tw', tA, m, tc, tzs.take 20⟩) ?_ rfl (fun h => by cases h) [] ?_ (cells_one _) (by simp only [maxLen]; omega) (by omega) (by simp; omega) ?_
               · rfl
               · rfl
               · rfl
               · rfl
               · have := MM.Row.new (wr.alloc (.cells #[.int .u8 tk, .int .i64 tn, .int .i64 ti, .string tw', .slice tA m tc] 57)) 57 (Na.cells ⟨tk, tn, ti, tw', tA, m, tc, tzs.take 20⟩)
                 rw [World.size_alloc] at this
                 exact MM.Src.row this.drew (by simp) _ (fun j u hu => hu)
               intro v1 wG hv1 hg1 hat1))
          go_roundw
          case rel =>
            refine ⟨k + 1, by omega, by go_num, ?_, ?_⟩
            · have hkl2 : k < tl.length := hkl
              have hcut : cut7 tl[k] = ⟨tk, tn, ti, tw', tA, m, tc, tzs.take 20⟩ := by
                rw [HTK.out]; simp only [cut7]; rw [HM.out, HTW.out, HQ.out]
              rw [gath7_next tl k hkl2 h80, hcut, List.length_append, List.length_singleton]
              have e : flat (gath7 tl k ++ [⟨tk, tn, ti, tw', tA, m, tc, tzs.take 20⟩]) = flat (gath7 tl k) ++ Na.cells ⟨tk, tn, ti, tw', tA, m, tc, tzs.take 20⟩ := by simp [flat]
              rw [e]; exact hv1
            · refine ((((hF.alloc _).alloc _).drew)).trans (MM.Far.of_grown (S := u3.ownBlock.toList) hg1 (by intro b1 hb1 _; simp [hb1])) (fun b1 hb1 _ => ?_)
              have := HGO.out b1 (by simpa using hb1)
              omega
          case measure => simp [intOf]; omega
      · have HG := Lib.hid hG
        clear hG
        go_wp2_with (fail)
        go_roundw
        case rel =>
          refine ⟨k + 1, by omega, by go_num, ?_, hF.alloc _⟩
          rw [gath7_stay tl k h80]
          exact HG.out.alloc _
        case measure => simp [intOf]; omega
    · have hkl : k = len := by omega
      subst hkl
      have HG := Lib.hid hG
      clear hG
      go_wp2_with (fail)
      go_ret
      exact ⟨_, rfl, HG.out, hF⟩
end SW
end Go.Proofs.YtbglcdjimipeeaaGreatDoor
