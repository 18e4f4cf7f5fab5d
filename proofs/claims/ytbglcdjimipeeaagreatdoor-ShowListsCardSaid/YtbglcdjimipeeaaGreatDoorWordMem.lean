/-
  The printer of words in memory; contracts of its add, isPair, field. Condition: sizes.
-/
import Derived.Test.YtbglcdjimipeeaaGreatDoorShowMem
import Derived.Test.YtbglcdjimipeeaaGreatDoorWordAll
namespace Go.Proofs.YtbglcdjimipeeaaGreatDoor
open Go.RowKit
namespace SX
open LX
/-- A text goes on; or it is too long. -/
def ad (t s : List UInt8) : Except (List UInt8) (List UInt8) := if 120 < (t ++ s).length then .error (t ++ s) else .ok (t ++ s)
def prB (ts : List AP.Th) (x : Int) : Bool := decide (AW.kindN ts x = 1) && decide (AW.lenN ts x = 2)
end SX
namespace SW
open LX SX
open RC6 (own_off one_far form_ own_row)
/-- The printer of words at q. -/
def Wp (w0 w : World) (q : Nat) (av nv : Value) (T : List UInt8) : Prop := ∃ bv, MM.Far [] w0 w ∧ w0.heap.size ≤ q ∧ MM.Row w q 98 [av, nv, bv] ∧ w.ownsRow w0.heap.size 5 1 bv T.length (Lib.byteCells T)
def tooLong : Value := .iface 100 (.agg #[])
/-- What writing comes to. -/
def WrP (w0 : World) (q : Nat) (av nv : Value) (X : Except (List UInt8) (List UInt8)) (e : Ending) (w' : World) : Prop := match X with
  | .ok T => e = .returned (.tuple #[]) ∧ Wp w0 w' q av nv T
  | .error T => e = .panicked [{ v := tooLong, recovered := false }] ∧ Wp w0 w' q av nv T
section
variable {w0 w w1 : World} {q : Nat} {av nv : Value} {T : List UInt8}
theorem Wp.to (h : Wp w0 w q av nv T) (f : MM.Far [] w w1) : Wp w0 w1 q av nv T := by
  obtain ⟨bv, hF, hq, hH, hB⟩ := h
  exact ⟨bv, hF.trans f (by simp), hq, hH.far f (by simp), MM.own_far hB f (by simp)⟩
theorem Wp.far (h : Wp w0 w q av nv T) : MM.Far [] w0 w := by
  obtain ⟨bv, hF, hq, hH, hB⟩ := h
  exact hF
theorem Wp.arena (h : Wp w0 w q av nv T) : w.cell? ⟨q, 0, none⟩ = some av := by
  obtain ⟨bv, hF, hq, hH, hB⟩ := h
  exact hH.at (i := 0) rfl
theorem Wp.names (h : Wp w0 w q av nv T) : w.cell? ⟨q, 1, none⟩ = some nv := by
  obtain ⟨bv, hF, hq, hH, hB⟩ := h
  exact hH.at (i := 1) rfl
theorem Wp.put {bv bv' : Value} {T' : List UInt8} (hF : MM.Far [] w0 w) (hq : w0.heap.size ≤ q) (hH : MM.Row w q 98 [av, nv, bv]) (hB : w.ownsRow w0.heap.size 5 1 bv T.length (Lib.byteCells T))
    (hr : w1.ownsRow w0.heap.size 5 1 bv' T'.length (Lib.byteCells T')) (f : MM.Far bv.ownBlock.toList w w1) : MM.Row w1 q 98 [av, nv, bv] ∧ Wp w0 (w1.setCell ⟨q, 2, none⟩ bv') q av nv T' ∧ MM.Row (w1.setCell ⟨q, 2, none⟩ bv') q 98 [av, nv, bv'] := by
  have hlow := fun b (hb : b ∈ bv.ownBlock.toList) => (MM.own_lt hB b (by simpa using hb)).2
  have hH1 : MM.Row w1 q 98 [av, nv, bv] := hH.far f (fun hm => MM.own_row_ne hB hH (by decide) (by simpa using hm))
  have g := one_far w1 q 2 bv'
  refine ⟨hH1, ⟨bv', (hF.trans f (fun b hb hl => by have := hlow b hb; omega)).trans g (fun b hb hl => ?_), hq, hH1.put 2 bv', MM.own_far hr g (fun b hb hm => ?_)⟩, hH1.put 2 bv'⟩
  · have e : b = q := by simpa using hb
    omega
  · have e : b = q := by simpa using hm
    exact MM.own_row_ne hr hH1 (by decide) (by rw [hb, e])
set_option maxHeartbeats 1000000 in
set_option maxRecDepth 20000 in
theorem add_any (h : Wp w0 w q av nv T) (s : ByteArray) (hT : T.length ≤ 120) (hs : s.size ≤ 1099511627776) :
    Calls Tryz.prog 61 #[.pointer (some ⟨q, 0, none⟩), .string s] w (WrP w0 q av nv (ad T (bts s))) := by
  obtain ⟨bv, hF, hq, hH, hB⟩ := h
  obtain ⟨i0, hi, hz0, hz1, hz2⟩ := info_parts byte_info
  have c2 := hH.at (i := 2) rfl
  have hb := hF.size
  have HF := Lib.hid hF
  have HH := Lib.hid hH
  have HB := Lib.hid hB
  clear hF hH hB
  have hsl : (bts s).length = s.size := by unfold bts; rw [Array.length_toList]; rfl
  have HSL := Lib.hid hsl
  clear hsl
  go_enter Tryz.func61, Tryz.ntmps61
  go_wp2_with (at_builtin; refine Lib.wpList_append_own_string _ rfl _ _ 72 9 rfl w0.heap.size 5 i0 bys_slice Tryz.underlying9 hi hz0 hz1 hz2 _ _ _ rfl HB.out s rfl ?c3 ?c4 ?c5 ?_)
  case c3 => unfold maxLen; omega
  case c4 => omega
  case c5 => omega
  intro v' w2 hv hg hat
  have f2 : MM.Far bv.ownBlock.toList w w2 := MM.Far.of_grown (S := bv.ownBlock.toList) hg (fun b hb _ => by simp [hb])
  have hvs : w2.ownsRow w0.heap.size 5 1 v' (T ++ LX.bts s).length (Lib.byteCells (T ++ LX.bts s)) := by
    rw [bc_app, List.length_append, HSL.out]
    exact hv
  obtain ⟨hH1, hW, hH2⟩ := Wp.put HF.out hq HH.out HB.out hvs f2
  have d2 := hH1.at (i := 2) rfl
  have f2' := hH1.frozen 2
  obtain ⟨A2, n2, rfl⟩ := form_ w0 hvs
  have e2 := hH2.at (i := 2) rfl
  have HW := Lib.hid hW
  obtain ⟨m, hm⟩ : ∃ m, (T ++ bts s).length = m := ⟨_, rfl⟩
  rw [hm] at HW e2
  rw [hm]
  by_cases h120 : 120 < m
  · have HA : Hid (ad T (bts s) = .error (T ++ bts s)) := Lib.hid (by unfold ad; rw [if_pos (by omega)])
    clear hv hg hat f2 hH1 hW hvs hm c2 hH2
    go_wp2
    refine ⟨rfl, ?_⟩
    rw [HA.out]
    exact ⟨rfl, HW.out⟩
  · have HA : Hid (ad T (bts s) = .ok (T ++ bts s)) := Lib.hid (by unfold ad; rw [if_neg (by omega)])
    clear hv hg hat f2 hH1 hW hvs hm c2 hH2
    go_wp2
    go_end0
    rw [HA.out]
    exact ⟨rfl, HW.out⟩
set_option maxHeartbeats 1000000 in
theorem ispair_any {p g h n : Nat} {ts : List AP.Th} (hA : AW.Ar w p g h n ts) (hq : w.cell? ⟨q, 0, none⟩ = some (AW.ptr p)) (x : Int) (hx : WP.U x) :
    Calls Tryz.prog 59 #[.pointer (some ⟨q, 0, none⟩), .int .u64 x] w fun e w' => e = .returned (.bool (prB ts x)) ∧ w = w' := by
  have HK := Lib.hid (AW.kind_any hA x hx)
  have HL := Lib.hid (AW.len_any hA x hx)
  have HP : Hid (prB ts x = (decide (AW.kindN ts x = 1) && decide (AW.lenN ts x = 2))) := Lib.hid rfl
  generalize AW.kindN ts x = k at *
  generalize AW.lenN ts x = m at *
  obtain ⟨kb, hkb⟩ : ∃ kb, (k == 1) = kb := ⟨_, rfl⟩
  have hkd : decide (k = 1) = kb := by rw [← hkb]; rfl
  rw [hkd] at HP
  clear hA hkd
  cases kb
  all_goals
    go_enter Tryz.func59, Tryz.ntmps59
    go_wp2_with (first
      | (go_at_call 75; (with_reducible refine HK.out.mono ?_); rintro e w' ⟨rfl, rfl⟩)
      | (go_at_call 76; (with_reducible refine HL.out.mono ?_); rintro e w' ⟨rfl, rfl⟩))
    go_ret
    rw [HP.out]
    exact ⟨rfl, rfl⟩
set_option maxHeartbeats 1000000 in
theorem field_any {p g h n : Nat} {ts : List AP.Th} (hA : AW.Ar w p g h n ts) (hq : w.cell? ⟨q, 0, none⟩ = some (AW.ptr p)) (x : Int) (hx : WP.U x) (j : Int) :
    Calls Tryz.prog 77 #[.pointer (some ⟨q, 0, none⟩), .int .u64 x, .int .i64 j] w fun e w' => e = .returned (.int .u64 (AW.getW ts x j)) ∧ w = w' := by
  have HK := Lib.hid (AW.get_any hA x hx j)
  clear hA
  go_enter Tryz.func77, Tryz.ntmps77
  go_wp2_with (first
    | (go_at_call 95; (with_reducible refine HK.out.mono ?_); rintro e w' ⟨rfl, rfl⟩))
  go_ret
  exact ⟨rfl, rfl⟩
theorem getW_u {n : Nat} {ts : List AP.Th} (hO : AW.Ok n ts) (x j : Int) : WP.U (AW.getW ts x j) := by
  have h0 : WP.U 0 := by unfold WP.U; omega
  unfold AW.getW
  split
  · exact h0
  · rename_i i hi
    split
    · rename_i hj
      have hlt : i < ts.length := by
        rcases Nat.lt_or_ge i ts.length with h | h
        · exact h
        · exfalso
          have : (AP.th ts i).l.length = 0 := by
            unfold AP.th
            rw [List.getD_eq_getElem?_getD, List.getElem?_eq_none h]; rfl
          omega
      refine (hO.each i hlt).2.2.2 _ ?_
      rw [List.getD_eq_getElem?_getD, List.getElem?_eq_getElem (by omega)]
      exact List.getElem_mem _
    · exact h0
end
end SW
end Go.Proofs.YtbglcdjimipeeaaGreatDoor
