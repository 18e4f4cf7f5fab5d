/-
  The contract of few: the first 80 acts, of up to 260 words each, in a row of the call's own. Condition: the argument's reading.
-/
import Derived.Test.YtokpiljbcbemlaaArenaActs
import Derived.Deep.DeepCutAuto
namespace Go.Proofs.Ytokpiljbcbemlaa
open Go.RowKit
namespace AL
open AW
/-- What few has gathered of the first k acts. -/
def gathered (tl : List Act) (k : Nat) : List Act := (tl.take (min k 80)).map Act.cut
def Gathered (w w' : World) (v : Value) (tl : List Act) (k : Nat) : Prop :=
  w'.ownsRow w.heap.size 63 6 v (gathered tl k).length (flat (gathered tl k)) ∧ MM.Far [] w w'
theorem gathered_next (tl : List Act) (k : Nat) (hk : k < tl.length) (h80 : k < 80) : gathered tl (k + 1) = gathered tl k ++ [(tl[k]).cut] := by
  unfold gathered
  rw [show min (k + 1) 80 = min k 80 + 1 from by omega, show min k 80 = k from by omega, List.take_succ_eq_append_getElem hk, List.map_append]
  rfl
theorem gathered_stay (tl : List Act) (k : Nat) (h80 : ¬ k < 80) : gathered tl (k + 1) = gathered tl k := by
  unfold gathered
  rw [show min (k + 1) 80 = min k 80 from by omega]
theorem gathered_le (tl : List Act) (k : Nat) : (gathered tl k).length ≤ 80 := by
  unfold gathered
  rw [List.length_map, List.length_take]; omega
theorem act_info : (Try.prog.info? 63).map (fun i => (i.zero, i.size, i.bytes)) = some (some (.agg #[.int .u8 0, .int .i64 0, .int .i64 0, .int .u64 0, .int .u64 0, .slice none 0 0]), 6, 64) := by kernel_rfl
theorem acts_slice : Try.prog.underlying 58 = some (.slice 63) := by kernel_rfl
theorem cells_one (t : Act) : ∀ u ∈ t.cells, u.oneCell' = true := by
  intro u hu
  simp only [Act.cells, List.mem_cons, List.not_mem_nil, or_false] at hu
  rcases hu with rfl | rfl | rfl | rfl | rfl | rfl <;> rfl
set_option maxHeartbeats 2000000 in
theorem few_any (a : Option Addr) (len cap : Nat) (tl : List Act) (w : World) (hz : Acts w a len cap tl) :
    Calls Try.prog 29 #[.slice a len cap] w fun e w' => ∃ v, e = .returned v ∧ Gathered w w' v tl len := by
  have hle := hz.le
  have hmax := hz.max
  unfold maxLen at hmax
  have HZ := Lib.hid hz
  clear hz
  go_enter Try.func29, Try.ntmps29
  go_wp2_with (fail)
  go_loopw [3, 8] (fun v i wr => ∃ k : Nat, k ≤ len ∧ i = .int .i64 k ∧ Gathered w wr v tl k) (fun _ i _ => len - (intOf i).toNat)
  case atStart => exact ⟨0, Nat.zero_le _, rfl, MO.none_ _ _ _ _, MM.Far.refl _ _⟩
  case round =>
    obtain ⟨k, hk, rfl, hG, hF⟩ := hrel
    by_cases hlt : k < len
    · have hkl : k < tl.length := by rw [HZ.out.len_]; exact hlt
      obtain ⟨b, off, rfl, hb, hcells, hok⟩ := HZ.out.elems k _ (List.getElem?_eq_getElem hkl)
      have hc : ∀ (j : Nat) (u : Value), (tl[k]).cells[j]? = some u → wr.cell? ⟨b, off + k * 6 + j, none⟩ = some u := by
        intro j u hu
        rw [hF.cell (p := ⟨b, off + k * 6 + j, none⟩) hb (by simp)]
        exact hcells j u hu
      have HT := Lib.hid (rfl : tl[k] = tl[k])
      obtain ⟨t, ht⟩ : ∃ t, tl[k] = t := ⟨_, rfl⟩
      rw [ht] at hc hok
      obtain ⟨tk, tn, ti, tw, tx, tA, tn2, tc, tzs⟩ := t
      have h0 := hc 0 _ rfl
      have h1 := hc 1 _ rfl
      have h2 := hc 2 _ rfl
      have h3 := hc 3 _ rfl
      have h4 := hc 4 _ rfl
      have h5 := hc 5 _ rfl
      rw [Nat.add_zero] at h0
      have hIle := hok.hz.le
      have hImx := hok.hz.max
      have hInil := hok.hz.nil
      unfold maxLen at hImx
      simp only at h0 h1 h2 h3 h4 h5 hIle hImx hInil
      have HTK := Lib.hid ht
      clear hc hcells ht HT hok
      by_cases h80 : k < 80
      · go_upto_region 6 with (fail)
        obtain ⟨m, hm⟩ : ∃ m, m = min tn2 260 := ⟨_, rfl⟩
        have hm1 : m ≤ tn2 := by omega
        have hm2 : m ≤ 260 := by omega
        have HM := Lib.hid hm
        clear hm
        go_cut [16] (fun s16 wx => wx = wr.alloc (.cells #[.int .u8 tk, .int .i64 tn, .int .i64 ti, .int .u64 tw, .int .u64 tx, .slice tA m tc] 63))
        case first =>
          have hm := HM.out
          cases tA with
          | none =>
            obtain rfl : tc = 0 := hInil rfl
            obtain rfl : tn2 = 0 := by omega
            obtain rfl : m = 0 := by omega
            clear hm
            go_wp2
            go_meet
            rfl
          | some ad =>
            by_cases h26 : tn2 ≤ 260
            · obtain rfl : m = tn2 := by omega
              clear hm
              go_wp2
              go_meet
              rfl
            · obtain rfl : m = 260 := by omega
              clear hm
              go_wp2
              go_meet
              rfl
        case rest =>
          subst hcut
          have hGl := gathered_le tl k
          have hfl := flat_len (gathered tl k)
          have s1 := hF.size
          have HGA := Lib.hid ((hG.alloc (.cells #[.int .u8 tk, .int .i64 tn, .int .i64 ti, .int .u64 tw, .int .u64 tx, .slice tA m tc] 63)).alloc (.cells #[.int .u8 tk, .int .i64 tn, .int .i64 ti, .int .u64 tw, .int .u64 tx, .slice tA m tc] 63))
          have HFl := Lib.hid hfl
          have HGO := Lib.hid (MM.own_lt hG)
          clear hG hfl
          go_wp2_with (first
            | (refine MO.wpList_append _ ?_ (.tmp 23) (.tmp 25) 58 ?_ w.heap.size 63 _ 6 64 acts_slice act_info rfl (by omega) _ (gathered tl k).length (flat (gathered tl k)) ?_ HGA.out (some ⟨wr.heap.size + 1, 0, none⟩) 1 1 (Act.cells ⟨tk, tn, ti, tw, tx, tA, m, tc, tzs.take 260⟩) ?_ rfl (fun h => by cases h) [] ?_ (cells_one _) (by simp only [maxLen]; omega) (by omega) (by simp; omega) ?_
               · rfl
               · rfl
               · rfl
               · rfl
               · have := MM.Row.new (wr.alloc (.cells #[.int .u8 tk, .int .i64 tn, .int .i64 ti, .int .u64 tw, .int .u64 tx, .slice tA m tc] 63)) 63 (Act.cells ⟨tk, tn, ti, tw, tx, tA, m, tc, tzs.take 260⟩)
                 rw [World.size_alloc] at this
                 exact MM.Src.row this (by simp) _ (fun j u hu => hu)
               intro v1 wG hv1 hg1 hat1))
          go_roundw
          case rel =>
            refine ⟨k + 1, by omega, by go_num, ?_, ?_⟩
            · have hkl2 : k < tl.length := hkl
              have hcut : (tl[k]).cut = ⟨tk, tn, ti, tw, tx, tA, m, tc, tzs.take 260⟩ := by
                rw [HTK.out]; simp only [Act.cut]; rw [HM.out]
              rw [gathered_next tl k hkl2 h80, hcut, List.length_append, List.length_singleton]
              have e : flat (gathered tl k ++ [⟨tk, tn, ti, tw, tx, tA, m, tc, tzs.take 260⟩]) = flat (gathered tl k) ++ Act.cells ⟨tk, tn, ti, tw, tx, tA, m, tc, tzs.take 260⟩ := by simp [flat]
              rw [e]; exact hv1
            · refine (((hF.alloc _).alloc _)).trans (MM.Far.of_grown (S := u3.ownBlock.toList) hg1 (by intro b1 hb1 _; simp [hb1])) (fun b1 hb1 _ => ?_)
              have := HGO.out b1 (by simpa using hb1)
              omega
          case measure => simp [intOf]; omega
      · have HG := Lib.hid hG
        clear hG
        go_wp2_with (fail)
        go_roundw
        case rel =>
          refine ⟨k + 1, by omega, by go_num, ?_, hF.alloc _⟩
          rw [gathered_stay tl k h80]
          exact HG.out.alloc _
        case measure => simp [intOf]; omega
    · have hkl : k = len := by omega
      subst hkl
      have HG := Lib.hid hG
      clear hG
      go_wp2_with (fail)
      go_ret
      exact ⟨_, rfl, HG.out, hF⟩
end AL
end Go.Proofs.Ytokpiljbcbemlaa
