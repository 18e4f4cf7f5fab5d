/-
  Several texts in one: WordMem, WordC1, WordC2, WordC3, WordSh. Each one's own head tells its conditions.
-/
import Derived.Test.YtbglcdjimipeeaaGreatDoorShowMem
import Derived.Test.YtbglcdjimipeeaaGreatDoorWordAll
import Derived.Test.YtbglcdjimipeeaaGreatDoorShowItoa
import Derived.Deep.LoopGhost
import Derived.Defers
import Derived.Recover
import Derived.Laws.IdiomStrings
import Derived.Laws.BytesArg
/-
  The printer of words in memory; contracts of its add, isPair, field. Condition: sizes.
-/
namespace Go.Proofs.YtbglcdjimipeeaaGreatDoor
open Go.RowKit
namespace SX
open LX
/-- A text goes on; or it is too long. -/
def ad (t s : List UInt8) : Except (List UInt8) (List UInt8) := if 120 < (t ++ s).length then .error (t ++ s) else .ok (t ++ s)
def prB (ts : List AP.Th) (x : Int) : Bool := decide (AW.kindN ts x = 1) && decide (AW.lenN ts x = 2)
end SX
namespace SW
open LX SX
open RC6 (own_off one_far form_ own_row)
/-- The printer of words at q. -/
def Wp (w0 w : World) (q : Nat) (av nv : Value) (T : List UInt8) : Prop := ∃ bv, MM.Far [] w0 w ∧ w0.heap.size ≤ q ∧ MM.Row w q 98 [av, nv, bv] ∧ w.ownsRow w0.heap.size 5 1 bv T.length (Lib.byteCells T)
def tooLong : Value := .iface 100 (.agg #[])
/-- What writing comes to. -/
def WrP (w0 : World) (q : Nat) (av nv : Value) (X : Except (List UInt8) (List UInt8)) (e : Ending) (w' : World) : Prop := match X with
  | .ok T => e = .returned (.tuple #[]) ∧ Wp w0 w' q av nv T
  | .error T => e = .panicked [{ v := tooLong, recovered := false }] ∧ Wp w0 w' q av nv T
section
variable {w0 w w1 : World} {q : Nat} {av nv : Value} {T : List UInt8}
theorem Wp.to (h : Wp w0 w q av nv T) (f : MM.Far [] w w1) : Wp w0 w1 q av nv T := by
  obtain ⟨bv, hF, hq, hH, hB⟩ := h
  exact ⟨bv, hF.trans f (by simp), hq, hH.far f (by simp), MM.own_far hB f (by simp)⟩
theorem Wp.far (h : Wp w0 w q av nv T) : MM.Far [] w0 w := by
  obtain ⟨bv, hF, hq, hH, hB⟩ := h
  exact hF
theorem Wp.arena (h : Wp w0 w q av nv T) : w.cell? ⟨q, 0, none⟩ = some av := by
  obtain ⟨bv, hF, hq, hH, hB⟩ := h
  exact hH.at (i := 0) rfl
theorem Wp.names (h : Wp w0 w q av nv T) : w.cell? ⟨q, 1, none⟩ = some nv := by
  obtain ⟨bv, hF, hq, hH, hB⟩ := h
  exact hH.at (i := 1) rfl
theorem Wp.put {bv bv' : Value} {T' : List UInt8} (hF : MM.Far [] w0 w) (hq : w0.heap.size ≤ q) (hH : MM.Row w q 98 [av, nv, bv]) (hB : w.ownsRow w0.heap.size 5 1 bv T.length (Lib.byteCells T))
    (hr : w1.ownsRow w0.heap.size 5 1 bv' T'.length (Lib.byteCells T')) (f : MM.Far bv.ownBlock.toList w w1) : MM.Row w1 q 98 [av, nv, bv] ∧ Wp w0 (w1.setCell ⟨q, 2, none⟩ bv') q av nv T' ∧ MM.Row (w1.setCell ⟨q, 2, none⟩ bv') q 98 [av, nv, bv'] := by
  have hlow := fun b (hb : b ∈ bv.ownBlock.toList) => (MM.own_lt hB b (by simpa using hb)).2
  have hH1 : MM.Row w1 q 98 [av, nv, bv] := hH.far f (fun hm => MM.own_row_ne hB hH (by decide) (by simpa using hm))
  have g := one_far w1 q 2 bv'
  refine ⟨hH1, ⟨bv', (hF.trans f (fun b hb hl => by have := hlow b hb; omega)).trans g (fun b hb hl => ?_), hq, hH1.put 2 bv', MM.own_far hr g (fun b hb hm => ?_)⟩, hH1.put 2 bv'⟩
  · have e : b = q := by simpa using hb
    omega
  · have e : b = q := by simpa using hm
    exact MM.own_row_ne hr hH1 (by decide) (by rw [hb, e])
set_option maxHeartbeats 1000000 in
set_option maxRecDepth 20000 in
theorem add_any (h : Wp w0 w q av nv T) (s : ByteArray) (hT : T.length ≤ 120) (hs : s.size ≤ 1099511627776) :
    Calls Tryz.prog 61 #[.pointer (some ⟨q, 0, none⟩), .string s] w (WrP w0 q av nv (ad T (bts s))) := by
  obtain ⟨bv, hF, hq, hH, hB⟩ := h
  obtain ⟨i0, hi, hz0, hz1, hz2⟩ := info_parts byte_info
  have c2 := hH.at (i := 2) rfl
  have hb := hF.size
  have HF := Lib.hid hF
  have HH := Lib.hid hH
  have HB := Lib.hid hB
  clear hF hH hB
  have hsl : (bts s).length = s.size := by unfold bts; rw [Array.length_toList]; rfl
  have HSL := Lib.hid hsl
  clear hsl
  go_enter Tryz.func61, Tryz.ntmps61
  go_wp2_with (at_builtin; refine Lib.wpList_append_own_string _ rfl _ _ 72 9 rfl w0.heap.size 5 i0 bys_slice Tryz.underlying9 hi hz0 hz1 hz2 _ _ _ rfl HB.out s rfl ?c3 ?c4 ?c5 ?_)
  case c3 => unfold maxLen; omega
  case c4 => omega
  case c5 => omega
  intro v' w2 hv hg hat
  have f2 : MM.Far bv.ownBlock.toList w w2 := MM.Far.of_grown (S := bv.ownBlock.toList) hg (fun b hb _ => by simp [hb])
  have hvs : w2.ownsRow w0.heap.size 5 1 v' (T ++ LX.bts s).length (Lib.byteCells (T ++ LX.bts s)) := by
    rw [bc_app, List.length_append, HSL.out]
    exact hv
  obtain ⟨hH1, hW, hH2⟩ := Wp.put HF.out hq HH.out HB.out hvs f2
  have d2 := hH1.at (i := 2) rfl
  have f2' := hH1.frozen 2
  obtain ⟨A2, n2, rfl⟩ := form_ w0 hvs
  have e2 := hH2.at (i := 2) rfl
  have HW := Lib.hid hW
  obtain ⟨m, hm⟩ : ∃ m, (T ++ bts s).length = m := ⟨_, rfl⟩
  rw [hm] at HW e2
  rw [hm]
  by_cases h120 : 120 < m
  · have HA : Hid (ad T (bts s) = .error (T ++ bts s)) := Lib.hid (by unfold ad; rw [if_pos (by omega)])
    clear hv hg hat f2 hH1 hW hvs hm c2 hH2
    go_wp2
    refine ⟨rfl, ?_⟩
    rw [HA.out]
    exact ⟨rfl, HW.out⟩
  · have HA : Hid (ad T (bts s) = .ok (T ++ bts s)) := Lib.hid (by unfold ad; rw [if_neg (by omega)])
    clear hv hg hat f2 hH1 hW hvs hm c2 hH2
    go_wp2
    go_end0
    rw [HA.out]
    exact ⟨rfl, HW.out⟩
set_option maxHeartbeats 1000000 in
theorem ispair_any {p g h n : Nat} {ts : List AP.Th} (hA : AW.Ar w p g h n ts) (hq : w.cell? ⟨q, 0, none⟩ = some (AW.ptr p)) (x : Int) (hx : WP.U x) :
    Calls Tryz.prog 59 #[.pointer (some ⟨q, 0, none⟩), .int .u64 x] w fun e w' => e = .returned (.bool (prB ts x)) ∧ w = w' := by
  have HK := Lib.hid (AW.kind_any hA x hx)
  have HL := Lib.hid (AW.len_any hA x hx)
  have HP : Hid (prB ts x = (decide (AW.kindN ts x = 1) && decide (AW.lenN ts x = 2))) := Lib.hid rfl
  generalize AW.kindN ts x = k at *
  generalize AW.lenN ts x = m at *
  obtain ⟨kb, hkb⟩ : ∃ kb, (k == 1) = kb := ⟨_, rfl⟩
  have hkd : decide (k = 1) = kb := by rw [← hkb]; rfl
  rw [hkd] at HP
  clear hA hkd
  cases kb
  all_goals
    go_enter Tryz.func59, Tryz.ntmps59
    go_wp2_with (first
      | (go_at_call 75; (with_reducible refine HK.out.mono ?_); rintro e w' ⟨rfl, rfl⟩)
      | (go_at_call 76; (with_reducible refine HL.out.mono ?_); rintro e w' ⟨rfl, rfl⟩))
    go_ret
    rw [HP.out]
    exact ⟨rfl, rfl⟩
set_option maxHeartbeats 1000000 in
theorem field_any {p g h n : Nat} {ts : List AP.Th} (hA : AW.Ar w p g h n ts) (hq : w.cell? ⟨q, 0, none⟩ = some (AW.ptr p)) (x : Int) (hx : WP.U x) (j : Int) :
    Calls Tryz.prog 77 #[.pointer (some ⟨q, 0, none⟩), .int .u64 x, .int .i64 j] w fun e w' => e = .returned (.int .u64 (AW.getW ts x j)) ∧ w = w' := by
  have HK := Lib.hid (AW.get_any hA x hx j)
  clear hA
  go_enter Tryz.func77, Tryz.ntmps77
  go_wp2_with (first
    | (go_at_call 95; (with_reducible refine HK.out.mono ?_); rintro e w' ⟨rfl, rfl⟩))
  go_ret
  exact ⟨rfl, rfl⟩
theorem getW_u {n : Nat} {ts : List AP.Th} (hO : AW.Ok n ts) (x j : Int) : WP.U (AW.getW ts x j) := by
  have h0 : WP.U 0 := by unfold WP.U; omega
  unfold AW.getW
  split
  · exact h0
  · rename_i i hi
    split
    · rename_i hj
      have hlt : i < ts.length := by
        rcases Nat.lt_or_ge i ts.length with h | h
        · exact h
        · exfalso
          have : (AP.th ts i).l.length = 0 := by
            unfold AP.th
            rw [List.getD_eq_getElem?_getD, List.getElem?_eq_none h]; rfl
          omega
      refine (hO.each i hlt).2.2.2 _ ?_
      rw [List.getD_eq_getElem?_getD, List.getElem?_eq_getElem (by omega)]
      exact List.getElem_mem _
    · exact h0
end
end SW
end Go.Proofs.YtbglcdjimipeeaaGreatDoor
/-
  Contract of the printer's single and name. Conditions: the arena's rows are as the list says; what the names' table tells; the numbers' table.
-/
namespace Go.Proofs.YtbglcdjimipeeaaGreatDoor
open Go.RowKit
namespace SX
open LX
def nmT (tS : Int → ByteArray) (tB : Int → Bool) (i : Int) : List UInt8 := if tB i = true then bts (tS i) else 35 :: 110 :: Lib.itoa i
/-- A word that is no Pair, as text. -/
def sg (tS : Int → ByteArray) (tB : Int → Bool) (ts : List AP.Th) (x : Int) : List UInt8 :=
  if x = 2 then [40, 41] else if x = 26 then [35, 117] else if x = 18 then [35, 116] else if x = 10 then [35, 102]
  else if WP.toIntB x = true then Lib.itoa (WP.toIntN x)
  else if WP.toB 3 x = true then nmT tS tB (WP.toN 3 x)
  else if WP.toB 4 x = true then 35 :: 104 :: Lib.itoa (WP.toN 4 x)
  else if AW.kindN ts x = 0 then [35, 63] else 35 :: Lib.itoa (AW.kindN ts x)
end SX
namespace SW
open LX SX
/-- What a table of names tells, from here on. -/
def Nms (w0 : World) (nv : Value) (tS : Int → ByteArray) (tB : Int → Bool) : Prop :=
  (∀ i, (tS i).size ≤ 1000000) ∧ ∀ (wx : World), MM.Far [] w0 wx → ∀ i, Calls Tryz.prog 97 #[nv, .int .i64 i] wx fun e w' => e = .returned (.tuple #[.string (tS i), .bool (tB i)]) ∧ MM.Far [] wx w'
section
variable {w0 w : World} {q : Nat} {nv : Value} {tS : Int → ByteArray} {tB : Int → Bool}
theorem ret_s {a b : ByteArray} (h : a = b) : Ending.returned (.string a) = .returned (.string b) := by rw [h]
theorem str_app (a : ByteArray) (l : List UInt8) : a ++ str l = str (bts a ++ l) := by
  apply ByteArray.ext
  simp [str, bts, ByteArray.data_append]
set_option maxHeartbeats 1000000 in
theorem name_any (hN : Nms w0 nv tS tB) (hT : Tab w0) (hF : MM.Far [] w0 w) (hq : w.cell? ⟨q, 1, none⟩ = some nv) (i : Int) (h0 : -9223372036854775808 ≤ i) (h1 : i ≤ 9223372036854775807) :
    Calls Tryz.prog 80 #[.pointer (some ⟨q, 0, none⟩), .int .i64 i] w fun e w' => e = .returned (.string (str (nmT tS tB i))) ∧ MM.Far [] w w' := by
  have HK := Lib.hid (hN.2 w hF i)
  have HT := Lib.hid hT
  have HF := Lib.hid hF
  have hl := Lib.itoa_length_le i h0 h1
  have hsz : (str (Lib.itoa i)).size ≤ 21 := by
    have h2 : (str (Lib.itoa i)).size = (Lib.itoa i).length := rfl
    omega
  clear hF hT hN hl
  cases hb : tB i with
  | true =>
    have HB := Lib.hid hb
    rw [hb] at HK
    clear hb
    go_enter Tryz.func80, Tryz.ntmps80
    go_wp2_with (first
      | (go_at_call 97; (with_reducible refine HK.out.mono ?_); rintro e w2 ⟨rfl, hF2⟩; have HF2 := Lib.hid hF2; clear hF2))
    go_ret
    exact ⟨ret_s (by unfold nmT; rw [if_pos HB.out]; unfold str bts; simp), HF2.out⟩
  | false =>
    have HB := Lib.hid hb
    rw [hb] at HK
    clear hb
    go_enter Tryz.func80, Tryz.ntmps80
    go_wp2_with (first
      | (go_at_call 97; (with_reducible refine HK.out.mono ?_); rintro e w2 ⟨rfl, hF2⟩; have HF2 := Lib.hid hF2; clear hF2)
      | (go_at_call 54; (refine (itoa_any i h0 h1 _ (HT.out.far (HF.out.trans HF2.out (by simp)))).mono ?_); rintro e w3 ⟨rfl, hF3⟩; have HF3 := Lib.hid hF3; clear hF3))
    go_ret
    refine ⟨ret_s ?_, HF2.out.trans HF3.out (by simp)⟩
    rw [str_app]
    unfold nmT
    rw [if_neg (by rw [HB.out]; decide)]
    rfl
theorem kindN_le {n : Nat} {ts : List AP.Th} (hO : AW.Ok n ts) (x : Int) : 0 ≤ AW.kindN ts x ∧ AW.kindN ts x ≤ 9 := by
  unfold AW.kindN
  split
  · omega
  · rename_i i hi
    rcases Nat.lt_or_ge i ts.length with h | h
    · have := hO.each i h
      omega
    · have : (AP.th ts i).k = 0 := by
        unfold AP.th
        rw [List.getD_eq_getElem?_getD, List.getElem?_eq_none h]; rfl
      omega
theorem hsz_itoa (i : Int) (h0 : -9223372036854775808 ≤ i) (h1 : i ≤ 9223372036854775807) : (str (Lib.itoa i)).size ≤ 21 := by
  have h2 : (str (Lib.itoa i)).size = (Lib.itoa i).length := rfl
  have := Lib.itoa_length_le i h0 h1
  omega
/-- What single comes to. -/
def SgP (w : World) (l : List UInt8) (e : Ending) (w' : World) : Prop := e = .returned (.string (str l)) ∧ MM.Far [] w w'
set_option maxHeartbeats 2000000 in
set_option maxRecDepth 20000 in
theorem single_any {p g h n : Nat} {ts : List AP.Th} (hA : AW.Ar w0 p g h n ts) (hN : Nms w0 nv tS tB) (hT : Tab w0) (hF : MM.Far [] w0 w) (hq : w.cell? ⟨q, 0, none⟩ = some (AW.ptr p)) (hq1 : w.cell? ⟨q, 1, none⟩ = some nv) (x : Int) (hx : WP.U x) :
    Calls Tryz.prog 62 #[.pointer (some ⟨q, 0, none⟩), .int .u64 x] w (SgP w (sg tS tB ts x)) := by
  have HA := Lib.hid hA
  have HT := Lib.hid hT
  have HF := Lib.hid hF
  have HN := Lib.hid hN
  have HQ1 := Lib.hid hq1
  have HX := Lib.hid hx
  clear hA hT hF hN hq1 hx
  by_cases x2 : x = 2
  · subst x2
    have HE : Hid (sg tS tB ts 2 = [40, 41]) := Lib.hid (by unfold sg; rfl)
    rw [HE.out]
    go_enter Tryz.func62, Tryz.ntmps62
    go_wp2
    go_ret
    exact ⟨rfl, MM.Far.refl [] _⟩
  by_cases x26 : x = 26
  · subst x26
    have HE : Hid (sg tS tB ts 26 = [35, 117]) := Lib.hid (by unfold sg; rfl)
    rw [HE.out]
    clear x2
    go_enter Tryz.func62, Tryz.ntmps62
    go_wp2
    go_ret
    exact ⟨rfl, MM.Far.refl [] _⟩
  by_cases x18 : x = 18
  · subst x18
    have HE : Hid (sg tS tB ts 18 = [35, 116]) := Lib.hid (by unfold sg; rfl)
    rw [HE.out]
    clear x2 x26
    go_enter Tryz.func62, Tryz.ntmps62
    go_wp2
    go_ret
    exact ⟨rfl, MM.Far.refl [] _⟩
  by_cases x10 : x = 10
  · subst x10
    have HE : Hid (sg tS tB ts 10 = [35, 102]) := Lib.hid (by unfold sg; rfl)
    rw [HE.out]
    clear x2 x26 x18
    go_enter Tryz.func62, Tryz.ntmps62
    go_wp2
    go_ret
    exact ⟨rfl, MM.Far.refl [] _⟩
  have b2 : (x == 2) = false := by rw [beq_eq_false_iff_ne]; exact x2
  have b26 : (x == 26) = false := by rw [beq_eq_false_iff_ne]; exact x26
  have b18 : (x == 18) = false := by rw [beq_eq_false_iff_ne]; exact x18
  have b10 : (x == 10) = false := by rw [beq_eq_false_iff_ne]; exact x10
  have HE0 : Hid (sg tS tB ts x = if WP.toIntB x = true then Lib.itoa (WP.toIntN x) else if WP.toB 3 x = true then nmT tS tB (WP.toN 3 x) else if WP.toB 4 x = true then 35 :: 104 :: Lib.itoa (WP.toN 4 x) else if AW.kindN ts x = 0 then [35, 63] else 35 :: Lib.itoa (AW.kindN ts x)) := Lib.hid (by
    unfold sg; rw [if_neg x2, if_neg x26, if_neg x18, if_neg x10])
  have HI := Lib.hid (fun (wx : World) => WW.toint_any x HX.out wx)
  have HO3 := Lib.hid (fun (wx : World) => WW.to_any 3 x HX.out wx)
  have HO4 := Lib.hid (fun (wx : World) => WW.to_any 4 x HX.out wx)
  have HK := Lib.hid (AW.kind_any (HA.out.far HF.out (by simp) (by simp) (by simp)) x HX.out)
  have hkn := kindN_le HA.out.ok x
  have HKN := Lib.hid hkn
  clear hkn
  cases hi : WP.toIntB x with
  | true =>
    rw [hi] at HI HE0
    have HV : Hid (-9223372036854775808 ≤ WP.toIntN x ∧ WP.toIntN x ≤ 9223372036854775807) := Lib.hid (by
      have h0 := (WP.toIntB_iff x).1 hi
      unfold WP.toIntN
      rw [if_pos hi]
      omega)
    generalize WP.toIntN x = v at *
    clear hi
    go_enter Tryz.func62, Tryz.ntmps62
    go_wp2_with (first
      | (go_at_call 78; (with_reducible refine (HI.out _).mono ?_); rintro e w' ⟨rfl, rfl⟩)
      | (go_at_call 54; (refine (itoa_any v HV.out.1 HV.out.2 _ (HT.out.far HF.out)).mono ?_); rintro e w3 ⟨rfl, hF3⟩; have HF3 := Lib.hid hF3; clear hF3))
    go_ret
    rw [HE0.out]
    exact ⟨rfl, HF3.out⟩
  | false =>
    rw [hi] at HI HE0
    clear hi
    cases h3 : WP.toB 3 x with
    | true =>
      rw [h3] at HO3 HE0
      have HV : Hid (-9223372036854775808 ≤ WP.toN 3 x ∧ WP.toN 3 x ≤ 9223372036854775807) := Lib.hid (by
        have h0 := (WP.toB_iff 3 x).1 h3
        have := HX.out
        unfold WP.U at this
        unfold WP.toN
        rw [if_pos h3]
        omega)
      generalize WP.toN 3 x = v at *
      clear h3
      go_enter Tryz.func62, Tryz.ntmps62
      go_wp2_with (first
        | (go_at_call 78; (with_reducible refine (HI.out _).mono ?_); rintro e w' ⟨rfl, rfl⟩)
        | (go_at_call 79; (with_reducible refine (HO3.out _).mono ?_); rintro e w' ⟨rfl, rfl⟩)
        | (go_at_call 80; (refine (name_any HN.out HT.out HF.out HQ1.out v HV.out.1 HV.out.2).mono ?_); rintro e w3 ⟨rfl, hF3⟩; have HF3 := Lib.hid hF3; clear hF3))
      go_ret
      rw [HE0.out]
      exact ⟨rfl, HF3.out⟩
    | false =>
      rw [h3] at HO3 HE0
      clear h3
      cases h4 : WP.toB 4 x with
      | true =>
        rw [h4] at HO4 HE0
        have HV : Hid (-9223372036854775808 ≤ WP.toN 4 x ∧ WP.toN 4 x ≤ 9223372036854775807) := Lib.hid (by
          have h0 := (WP.toB_iff 4 x).1 h4
          have := HX.out
          unfold WP.U at this
          unfold WP.toN
          rw [if_pos h4]
          omega)
        generalize WP.toN 4 x = v at *
        have hsz := hsz_itoa v HV.out.1 HV.out.2
        clear h4
        go_enter Tryz.func62, Tryz.ntmps62
        go_wp2_with (first
          | (go_at_call 78; (with_reducible refine (HI.out _).mono ?_); rintro e w' ⟨rfl, rfl⟩)
          | (go_at_call 79; (with_reducible refine (HO3.out _).mono ?_); rintro e w' ⟨rfl, rfl⟩)
          | (go_at_call 79; (with_reducible refine (HO4.out _).mono ?_); rintro e w' ⟨rfl, rfl⟩)
          | (go_at_call 54; (refine (itoa_any v HV.out.1 HV.out.2 _ (HT.out.far HF.out)).mono ?_); rintro e w3 ⟨rfl, hF3⟩; have HF3 := Lib.hid hF3; clear hF3))
        go_ret
        rw [HE0.out]
        exact ⟨ret_s (by rw [str_app]; rfl), HF3.out⟩
      | false =>
        rw [h4] at HO4 HE0
        clear h4
        have HV : Hid (-9223372036854775808 ≤ AW.kindN ts x ∧ AW.kindN ts x ≤ 9223372036854775807) := Lib.hid (by have := HKN.out; omega)
        generalize AW.kindN ts x = v at *
        by_cases hv : v = 0
        · subst hv
          go_enter Tryz.func62, Tryz.ntmps62
          go_wp2_with (first
            | (go_at_call 78; (with_reducible refine (HI.out _).mono ?_); rintro e w' ⟨rfl, rfl⟩)
            | (go_at_call 79; (with_reducible refine (HO3.out _).mono ?_); rintro e w' ⟨rfl, rfl⟩)
            | (go_at_call 79; (with_reducible refine (HO4.out _).mono ?_); rintro e w' ⟨rfl, rfl⟩)
            | (go_at_call 75; (with_reducible refine HK.out.mono ?_); rintro e w' ⟨rfl, rfl⟩))
          go_ret
          rw [HE0.out]
          exact ⟨rfl, MM.Far.refl [] _⟩
        · have c1 : (v == 0) = false := by rw [beq_eq_false_iff_ne]; exact hv
          have c2 : (v != 0) = true := by simp [bne, c1]
          have hsz := hsz_itoa v HV.out.1 HV.out.2
          go_enter Tryz.func62, Tryz.ntmps62
          go_wp2_with (first
            | (go_at_call 78; (with_reducible refine (HI.out _).mono ?_); rintro e w' ⟨rfl, rfl⟩)
            | (go_at_call 79; (with_reducible refine (HO3.out _).mono ?_); rintro e w' ⟨rfl, rfl⟩)
            | (go_at_call 79; (with_reducible refine (HO4.out _).mono ?_); rintro e w' ⟨rfl, rfl⟩)
            | (go_at_call 75; (with_reducible refine HK.out.mono ?_); rintro e w' ⟨rfl, rfl⟩)
            | (go_at_call 54; (refine (itoa_any v HV.out.1 HV.out.2 _ (HT.out.far HF.out)).mono ?_); rintro e w3 ⟨rfl, hF3⟩; have HF3 := Lib.hid hF3; clear hF3))
          go_ret
          rw [HE0.out, if_neg (by decide), if_neg (by decide), if_neg (by decide), if_neg hv]
          exact ⟨ret_s (by rw [str_app]; rfl), HF3.out⟩
end
end SW
end Go.Proofs.YtbglcdjimipeeaaGreatDoor
/-
  Contract of the printer's word and pair. Conditions: the arena's rows are as the list says; what the names' table tells; the numbers' table.
-/
namespace Go.Proofs.YtbglcdjimipeeaaGreatDoor
open Go.RowKit
namespace SX
open LX
/-- A word behind a text; or what follows a Pair's first word. f: how far it goes at most. -/
def wrt (tS : Int → ByteArray) (tB : Int → Bool) (ts : List AP.Th) : Nat → Bool → List UInt8 → Int → Except (List UInt8) (List UInt8)
  | 0, _, T, _ => .error T
  | f + 1, m, T, x =>
    if prB ts x = true then
      match ad T (if m = true then [32] else [40]) with
      | .error e => .error e
      | .ok T1 => match wrt tS tB ts f false T1 (AW.getW ts x 0) with
        | .error e => .error e
        | .ok T2 => wrt tS tB ts f true T2 (AW.getW ts x 1)
    else if m = false then ad T (sg tS tB ts x)
    else if x = 2 then ad T [41]
    else match ad T [32, 46, 32] with
      | .error e => .error e
      | .ok T1 => match ad T1 (sg tS tB ts x) with
        | .error e => .error e
        | .ok T2 => ad T2 [41]
theorem ad_ok {T s T1 : List UInt8} (h : ad T s = .ok T1) : T1 = T ++ s ∧ T1.length ≤ 120 ∧ T.length + s.length = T1.length := by
  unfold ad at h
  split at h
  · cases h
  · injection h with h
    subst h
    exact ⟨rfl, by omega, by rw [List.length_append]⟩
theorem ad_err {T s E : List UInt8} (h : ad T s = .error E) : E = T ++ s ∧ 120 < E.length := by
  unfold ad at h
  split at h
  · injection h with h
    subst h
    exact ⟨rfl, by omega⟩
  · cases h
theorem wr_ok {tS : Int → ByteArray} {tB : Int → Bool} {ts : List AP.Th} : ∀ (f : Nat) (m : Bool) (T : List UInt8) (x : Int) (T1 : List UInt8), wrt tS tB ts f m T x = .ok T1 → T1.length ≤ 120 ∧ ∃ U, T1 = T ++ U := by
  intro f
  induction f with
  | zero => intro m T x T1 h; cases h
  | succ f ih =>
    intro m T x T1 h
    unfold wrt at h
    split at h
    · split at h
      · cases h
      · rename_i T2 h2
        split at h
        · cases h
        · rename_i T3 h3
          obtain ⟨e2, _, _⟩ := ad_ok h2
          obtain ⟨_, U3, e3⟩ := ih _ _ _ _ h3
          obtain ⟨l4, U4, e4⟩ := ih _ _ _ _ h
          exact ⟨l4, _, by rw [e4, e3, e2, List.append_assoc, List.append_assoc]⟩
    split at h
    · obtain ⟨e, l, _⟩ := ad_ok h
      exact ⟨l, _, e⟩
    split at h
    · obtain ⟨e, l, _⟩ := ad_ok h
      exact ⟨l, _, e⟩
    split at h
    · cases h
    · rename_i T2 h2
      split at h
      · cases h
      · rename_i T3 h3
        obtain ⟨e2, _, _⟩ := ad_ok h2
        obtain ⟨e3, _, _⟩ := ad_ok h3
        obtain ⟨e4, l4, _⟩ := ad_ok h
        exact ⟨l4, _, by rw [e4, e3, e2, List.append_assoc, List.append_assoc]⟩
theorem wr_len {tS : Int → ByteArray} {tB : Int → Bool} {ts : List AP.Th} {f : Nat} {m : Bool} {T : List UInt8} {x : Int} {T1 : List UInt8} (h : wrt tS tB ts f m T x = .ok T1) : T1.length ≤ 120 ∧ T.length ≤ T1.length := by
  obtain ⟨h1, U, e⟩ := wr_ok _ _ _ _ _ h
  exact ⟨h1, by rw [e, List.length_append]; omega⟩
end SX
namespace SW
open LX SX
section
variable {w0 : World} {q : Nat} {nv : Value} {tS : Int → ByteArray} {tB : Int → Bool} {p g h n : Nat} {ts : List AP.Th}
def WordH (w0 : World) (q p : Nat) (nv : Value) (tS : Int → ByteArray) (tB : Int → Bool) (ts : List AP.Th) (f : Nat) : Prop :=
  ∀ (w : World) (T : List UInt8) (x : Int), Wp w0 w q (AW.ptr p) nv T → T.length ≤ 120 → 122 ≤ f + T.length → WP.U x →
    Calls Tryz.prog 43 #[.pointer (some ⟨q, 0, none⟩), .int .u64 x] w (WrP w0 q (AW.ptr p) nv (wrt tS tB ts f false T x))
theorem sg_len {n : Nat} {ts : List AP.Th} (hS : ∀ i, (tS i).size ≤ 1000000) (hO : AW.Ok n ts) (x : Int) (hx : WP.U x) : (sg tS tB ts x).length ≤ 1000100 := by
  have hb (v : Int) (h0 : -9223372036854775808 ≤ v) (h1 : v ≤ 9223372036854775807) : (Lib.itoa v).length ≤ 21 := Lib.itoa_length_le v h0 h1
  have hxu := hx
  unfold WP.U at hxu
  have hk := kindN_le hO x
  have hn (k : Int) : 0 ≤ WP.toN k x ∧ WP.toN k x ≤ 9223372036854775807 := by
    unfold WP.toN
    split
    · rename_i h
      have := (WP.toB_iff k x).1 h
      omega
    · omega
  unfold sg
  repeat' split
  all_goals try (simp only [List.length_cons, List.length_nil]; omega)
  · rename_i h
    have h0 := (WP.toIntB_iff x).1 h
    have := hb (WP.toIntN x) (by unfold WP.toIntN; rw [if_pos h]; omega) (by unfold WP.toIntN; rw [if_pos h]; omega)
    omega
  · unfold nmT
    split
    · have := hS (WP.toN 3 x)
      have e : (bts (tS (WP.toN 3 x))).length = (tS (WP.toN 3 x)).size := by unfold bts; rw [Array.length_toList]; rfl
      omega
    · have h1 := hn 3
      have := hb (WP.toN 3 x) (by omega) (by omega)
      simp only [List.length_cons]; omega
  · have h1 := hn 4
    have := hb (WP.toN 4 x) (by omega) (by omega)
    simp only [List.length_cons]; omega
  · have := hb (AW.kindN ts x) (by omega) (by omega)
    simp only [List.length_cons]; omega
/-- At the head of pair's loop. -/
def PairI (w0 : World) (q p : Nat) (nv : Value) (tS : Int → ByteArray) (tB : Int → Bool) (ts : List AP.Th) (f : Nat) (X : Except (List UInt8) (List UInt8)) (k : Nat) (r : Int) (wr_ : World) : Prop :=
  ∃ T, Wp w0 wr_ q (AW.ptr p) nv T ∧ T.length ≤ 120 ∧ 122 ≤ k + T.length ∧ k ≤ f ∧ wrt tS tB ts k true T r = X
set_option maxHeartbeats 1000000 in
set_option maxRecDepth 20000 in
theorem pair_any (hA : AW.Ar w0 p g h n ts) (f : Nat) (H : ∀ k, k ≤ f → WordH w0 q p nv tS tB ts k) (w : World) (T : List UInt8) (x : Int) (hW : Wp w0 w q (AW.ptr p) nv T) (hT : T.length ≤ 120) (hf : 122 ≤ f + 1 + T.length) (hx : WP.U x) (hp : prB ts x = true) :
    Calls Tryz.prog 60 #[.pointer (some ⟨q, 0, none⟩), .int .u64 x] w (WrP w0 q (AW.ptr p) nv (wrt tS tB ts (f + 1) false T x)) := by
  obtain ⟨X, hX⟩ : ∃ X, wrt tS tB ts (f + 1) false T x = X := ⟨_, rfl⟩
  rw [hX]
  unfold wrt at hX
  rw [if_pos hp, if_neg (by decide)] at hX
  have HA := Lib.hid hA
  have HH := Lib.hid H
  have HW := Lib.hid hW
  have HX := Lib.hid hx
  have HF := Lib.hid (fun (wx : World) (T1 : List UInt8) (hW : Wp w0 wx q (AW.ptr p) nv T1) (y : Int) (hy : WP.U y) (j : Int) => field_any (hA.far hW.far (by simp) (by simp) (by simp)) hW.arena y hy j)
  have HP := Lib.hid (fun (wx : World) (T1 : List UInt8) (hW : Wp w0 wx q (AW.ptr p) nv T1) (y : Int) (hy : WP.U y) => ispair_any (hA.far hW.far (by simp) (by simp) (by simp)) hW.arena y hy)
  have HU := Lib.hid (fun (y j : Int) => getW_u hA.ok y j)
  have HAD := Lib.hid (add_any hW ⟨#[40]⟩ hT (by decide))
  rw [show bts (⟨#[40]⟩ : ByteArray) = [40] from rfl] at HAD
  clear hA H hW hx
  cases h1 : ad T [40] with
  | error E =>
    rw [h1] at hX HAD
    subst hX
    clear h1
    go_enter Tryz.func60, Tryz.ntmps60
    go_wp2_with (first
      | (go_at_call 61; (with_reducible refine HAD.out.mono ?_); rintro e w2 ⟨rfl, hW2⟩))
    exact ⟨rfl, rfl, hW2⟩
  | ok T1 =>
    rw [h1] at hX HAD
    simp only at hX
    obtain ⟨-, hl1, hl2⟩ := ad_ok h1
    simp only [List.length_cons, List.length_nil] at hl2
    clear h1
    cases h2 : wrt tS tB ts f false T1 (AW.getW ts x 0) with
    | error E =>
      rw [h2] at hX
      subst hX
      have HWD := Lib.hid (fun (wx : World) (hW : Wp w0 wx q (AW.ptr p) nv T1) => HH.out f (Nat.le_refl _) wx T1 (AW.getW ts x 0) hW hl1 (by omega) (HU.out _ _))
      rw [h2] at HWD
      clear h2
      go_enter Tryz.func60, Tryz.ntmps60
      go_wp2_with (first
        | (go_at_call 61; (with_reducible refine HAD.out.mono ?_); rintro e w2 ⟨rfl, hW2⟩; have HW2 := Lib.hid hW2; clear hW2)
        | (go_at_call 77; (with_reducible refine (HF.out _ _ HW2.out x HX.out 0).mono ?_); rintro e w' ⟨rfl, rfl⟩)
        | (go_at_call 43; (with_reducible refine (HWD.out _ HW2.out).mono ?_); rintro e w3 ⟨rfl, hW3⟩))
      exact ⟨rfl, rfl, hW3⟩
    | ok T2 =>
      rw [h2] at hX
      simp only at hX
      have HWD := Lib.hid (fun (wx : World) (hW : Wp w0 wx q (AW.ptr p) nv T1) => HH.out f (Nat.le_refl _) wx T1 (AW.getW ts x 0) hW hl1 (by omega) (HU.out _ _))
      rw [h2] at HWD
      obtain ⟨g1, g2⟩ := wr_len h2
      have HX2 := Lib.hid hX
      clear h2 hX
      go_enter Tryz.func60, Tryz.ntmps60
      go_wp2_with (first
        | (go_at_call 61; (with_reducible refine HAD.out.mono ?_); rintro e w2 ⟨rfl, hW2⟩; have HW2 := Lib.hid hW2; clear hW2)
        | (go_at_call 77; (with_reducible refine (HF.out _ _ HW2.out x HX.out 0).mono ?_); rintro e w' ⟨rfl, rfl⟩)
        | (go_at_call 43; (with_reducible refine (HWD.out _ HW2.out).mono ?_); rintro e w3 ⟨rfl, hW3⟩; have HW3 := Lib.hid hW3; clear hW3)
        | (go_at_call 77; (with_reducible refine (HF.out _ _ HW3.out x HX.out 1).mono ?_); rintro e w' ⟨rfl, rfl⟩))
      have HI2 : Hid (PairI w0 q p nv tS tB ts f X f (AW.getW ts x 1) w3) := Lib.hid ⟨T2, HW3.out, g1, by omega, Nat.le_refl _, HX2.out⟩
      go_loopg [4] f (fun k s4 wz => ∃ r : Int, s4 = .int .u64 r ∧ WP.U r ∧ PairI w0 q p nv tS tB ts f X k r wz)
      case atStart => exact ⟨AW.getW ts x 1, rfl, HU.out _ _, HI2.out⟩
      case round =>
        obtain ⟨r, rfl, hr, T3, hW4, hl4, hk4, hkf, hX4⟩ := hrel
        obtain ⟨k1, rfl⟩ : ∃ k1, gk = k1 + 1 := ⟨gk - 1, by omega⟩
        unfold wrt at hX4
        have HW4 := Lib.hid hW4
        have HR := Lib.hid hr
        have HPR := Lib.hid (HP.out wr T3 hW4 r hr)
        clear hW4 hr HI2
        by_cases hpr : prB ts r = true
        · rw [hpr] at HPR
          rw [if_pos hpr, if_pos rfl] at hX4
          have HAD4 := Lib.hid (add_any HW4.out ⟨#[32]⟩ hl4 (by decide))
          rw [show bts (⟨#[32]⟩ : ByteArray) = [32] from rfl] at HAD4
          clear hpr
          cases h5 : ad T3 [32] with
          | error E =>
            rw [h5] at hX4 HAD4
            have HX4 : Hid (X = .error E) := Lib.hid hX4.symm
            clear h5 hX4
            go_wp2_with (first
              | (go_at_call 59; (with_reducible refine HPR.out.mono ?_); rintro e w' ⟨rfl, rfl⟩)
              | (go_at_call 61; (with_reducible refine HAD4.out.mono ?_); rintro e w5 ⟨rfl, hW5⟩; have HW5 := Lib.hid hW5; clear hW5))
            rw [HX4.out]
            exact ⟨rfl, rfl, HW5.out⟩
          | ok T5 =>
            rw [h5] at hX4 HAD4
            simp only at hX4
            obtain ⟨-, hl5, hl6⟩ := ad_ok h5
            simp only [List.length_cons, List.length_nil] at hl6
            have HWD4 := Lib.hid (fun (wx : World) (hW : Wp w0 wx q (AW.ptr p) nv T5) => HH.out k1 (by omega) wx T5 (AW.getW ts r 0) hW hl5 (by omega) (HU.out _ _))
            clear h5
            cases h6 : wrt tS tB ts k1 false T5 (AW.getW ts r 0) with
            | error E =>
              rw [h6] at hX4 HWD4
              have HX4 : Hid (X = .error E) := Lib.hid hX4.symm
              clear h6 hX4
              go_wp2_with (first
                | (go_at_call 59; (with_reducible refine HPR.out.mono ?_); rintro e w' ⟨rfl, rfl⟩)
                | (go_at_call 61; (with_reducible refine HAD4.out.mono ?_); rintro e w5 ⟨rfl, hW5⟩; have HW5 := Lib.hid hW5; clear hW5)
                | (go_at_call 77; (with_reducible refine (HF.out _ _ HW5.out r HR.out 0).mono ?_); rintro e w' ⟨rfl, rfl⟩)
                | (go_at_call 43; (with_reducible refine (HWD4.out _ HW5.out).mono ?_); rintro e w6 ⟨rfl, hW6⟩; have HW6 := Lib.hid hW6; clear hW6))
              rw [HX4.out]
              exact ⟨rfl, rfl, HW6.out⟩
            | ok T6 =>
              rw [h6] at hX4 HWD4
              simp only at hX4
              have HX4 := Lib.hid hX4
              obtain ⟨i1, i2⟩ := wr_len h6
              clear h6 hX4
              go_wp2_with (first
                | (go_at_call 59; (with_reducible refine HPR.out.mono ?_); rintro e w' ⟨rfl, rfl⟩)
                | (go_at_call 61; (with_reducible refine HAD4.out.mono ?_); rintro e w5 ⟨rfl, hW5⟩; have HW5 := Lib.hid hW5; clear hW5)
                | (go_at_call 77; (with_reducible refine (HF.out _ _ HW5.out r HR.out 0).mono ?_); rintro e w' ⟨rfl, rfl⟩)
                | (go_at_call 43; (with_reducible refine (HWD4.out _ HW5.out).mono ?_); rintro e w6 ⟨rfl, hW6⟩; have HW6 := Lib.hid hW6; clear hW6)
                | (go_at_call 77; (with_reducible refine (HF.out _ _ HW6.out r HR.out 1).mono ?_); rintro e w' ⟨rfl, rfl⟩))
              go_roundg k1
              case measure => omega
              case rel => exact ⟨AW.getW ts r 1, rfl, HU.out _ _, T6, HW6.out, i1, by omega, by omega, HX4.out⟩
        · have hpr2 : prB ts r = false := by simpa using hpr
          rw [hpr2] at HPR
          rw [if_neg hpr, if_neg (by decide)] at hX4
          by_cases r2 : r = 2
          · subst r2
            rw [if_pos rfl] at hX4
            have HAD4 := Lib.hid (add_any HW4.out ⟨#[41]⟩ hl4 (by decide))
            rw [show bts (⟨#[41]⟩ : ByteArray) = [41] from rfl, hX4] at HAD4
            clear hpr hpr2 hX4
            cases X with
            | error E =>
              go_wp2_with (first
                | (go_at_call 59; (with_reducible refine HPR.out.mono ?_); rintro e w' ⟨rfl, rfl⟩)
                | (go_at_call 61; (with_reducible refine HAD4.out.mono ?_); rintro e w5 ⟨rfl, hW5⟩; have HW5 := Lib.hid hW5; clear hW5))
              exact ⟨rfl, rfl, HW5.out⟩
            | ok T5 =>
              go_wp2_with (first
                | (go_at_call 59; (with_reducible refine HPR.out.mono ?_); rintro e w' ⟨rfl, rfl⟩)
                | (go_at_call 61; (with_reducible refine HAD4.out.mono ?_); rintro e w5 ⟨rfl, hW5⟩; have HW5 := Lib.hid hW5; clear hW5))
              go_end0
              exact ⟨rfl, HW5.out⟩
          · rw [if_neg r2] at hX4
            have b2 : (r == 2) = false := by rw [beq_eq_false_iff_ne]; exact r2
            have b3 : (r != 2) = true := by simp [bne, b2]
            have HAD4 := Lib.hid (add_any HW4.out ⟨#[32, 46, 32]⟩ hl4 (by decide))
            rw [show bts (⟨#[32, 46, 32]⟩ : ByteArray) = [32, 46, 32] from rfl] at HAD4
            cases h5 : ad T3 [32, 46, 32] with
            | error E =>
              rw [h5] at hX4 HAD4
              have HX4 : Hid (X = .error E) := Lib.hid hX4.symm
              clear h5 hX4 hpr hpr2
              go_wp2_with (first
                | (go_at_call 59; (with_reducible refine HPR.out.mono ?_); rintro e w' ⟨rfl, rfl⟩)
                | (go_at_call 61; (with_reducible refine HAD4.out.mono ?_); rintro e w5 ⟨rfl, hW5⟩; have HW5 := Lib.hid hW5; clear hW5))
              rw [HX4.out]
              exact ⟨rfl, rfl, HW5.out⟩
            | ok T5 =>
              rw [h5] at hX4 HAD4
              simp only at hX4
              obtain ⟨-, hl5, hl6⟩ := ad_ok h5
              simp only [List.length_cons, List.length_nil] at hl6
              have hw : wrt tS tB ts k1 false T5 r = ad T5 (sg tS tB ts r) := by
                obtain ⟨k2, rfl⟩ : ∃ k2, k1 = k2 + 1 := ⟨k1 - 1, by omega⟩
                unfold wrt
                rw [if_neg hpr, if_pos rfl]
              have HWD4 := Lib.hid (fun (wx : World) (hW : Wp w0 wx q (AW.ptr p) nv T5) => HH.out k1 (by omega) wx T5 r hW hl5 (by omega) HR.out)
              rw [hw] at HWD4
              clear h5 hpr hpr2 hw
              cases h6 : ad T5 (sg tS tB ts r) with
              | error E =>
                rw [h6] at hX4 HWD4
                have HX4 : Hid (X = .error E) := Lib.hid hX4.symm
                clear h6 hX4
                go_wp2_with (first
                  | (go_at_call 59; (with_reducible refine HPR.out.mono ?_); rintro e w' ⟨rfl, rfl⟩)
                  | (go_at_call 61; (with_reducible refine HAD4.out.mono ?_); rintro e w5 ⟨rfl, hW5⟩; have HW5 := Lib.hid hW5; clear hW5)
                  | (go_at_call 43; (with_reducible refine (HWD4.out _ HW5.out).mono ?_); rintro e w6 ⟨rfl, hW6⟩; have HW6 := Lib.hid hW6; clear hW6))
                rw [HX4.out]
                exact ⟨rfl, rfl, HW6.out⟩
              | ok T6 =>
                rw [h6] at hX4 HWD4
                simp only at hX4
                obtain ⟨-, hl7, -⟩ := ad_ok h6
                have HAD7 := Lib.hid (fun (wx : World) (hW : Wp w0 wx q (AW.ptr p) nv T6) => add_any hW ⟨#[41]⟩ hl7 (by decide))
                rw [show bts (⟨#[41]⟩ : ByteArray) = [41] from rfl, hX4] at HAD7
                clear h6 hX4
                cases X with
                | error E =>
                  go_wp2_with (first
                    | (go_at_call 59; (with_reducible refine HPR.out.mono ?_); rintro e w' ⟨rfl, rfl⟩)
                    | (go_at_call 61; (with_reducible refine HAD4.out.mono ?_); rintro e w5 ⟨rfl, hW5⟩; have HW5 := Lib.hid hW5; clear hW5)
                    | (go_at_call 43; (with_reducible refine (HWD4.out _ HW5.out).mono ?_); rintro e w6 ⟨rfl, hW6⟩; have HW6 := Lib.hid hW6; clear hW6)
                    | (go_at_call 61; (with_reducible refine (HAD7.out _ HW6.out).mono ?_); rintro e w7 ⟨rfl, hW7⟩; have HW7 := Lib.hid hW7; clear hW7))
                  exact ⟨rfl, rfl, HW7.out⟩
                | ok T7 =>
                  go_wp2_with (first
                    | (go_at_call 59; (with_reducible refine HPR.out.mono ?_); rintro e w' ⟨rfl, rfl⟩)
                    | (go_at_call 61; (with_reducible refine HAD4.out.mono ?_); rintro e w5 ⟨rfl, hW5⟩; have HW5 := Lib.hid hW5; clear hW5)
                    | (go_at_call 43; (with_reducible refine (HWD4.out _ HW5.out).mono ?_); rintro e w6 ⟨rfl, hW6⟩; have HW6 := Lib.hid hW6; clear hW6)
                    | (go_at_call 61; (with_reducible refine (HAD7.out _ HW6.out).mono ?_); rintro e w7 ⟨rfl, hW7⟩; have HW7 := Lib.hid hW7; clear hW7))
                  go_end0
                  exact ⟨rfl, HW7.out⟩
set_option maxHeartbeats 1000000 in
set_option maxRecDepth 20000 in
theorem word_step (hA : AW.Ar w0 p g h n ts) (hN : Nms w0 nv tS tB) (hT0 : Tab w0) (f : Nat) (H : ∀ k, k ≤ f → WordH w0 q p nv tS tB ts k) : WordH w0 q p nv tS tB ts (f + 1) := by
  intro w T x hW hT hf hx
  obtain ⟨X, hX⟩ : ∃ X, wrt tS tB ts (f + 1) false T x = X := ⟨_, rfl⟩
  have HPR := Lib.hid (ispair_any (hA.far hW.far (by simp) (by simp) (by simp)) hW.arena x hx)
  have HW := Lib.hid hW
  by_cases hp : prB ts x = true
  · have HPA := Lib.hid (pair_any hA f H w T x hW hT hf hx hp)
    rw [hX] at HPA ⊢
    rw [hp] at HPR
    clear hp hX hA hN hT0 H hW
    cases X with
    | error E =>
      go_enter Tryz.func43, Tryz.ntmps43
      go_wp2_with (first
        | (go_at_call 59; (with_reducible refine HPR.out.mono ?_); rintro e w' ⟨rfl, rfl⟩)
        | (go_at_call 60; (with_reducible refine HPA.out.mono ?_); rintro e w5 ⟨rfl, hW5⟩; have HW5 := Lib.hid hW5; clear hW5))
      exact ⟨rfl, rfl, HW5.out⟩
    | ok T5 =>
      go_enter Tryz.func43, Tryz.ntmps43
      go_wp2_with (first
        | (go_at_call 59; (with_reducible refine HPR.out.mono ?_); rintro e w' ⟨rfl, rfl⟩)
        | (go_at_call 60; (with_reducible refine HPA.out.mono ?_); rintro e w5 ⟨rfl, hW5⟩; have HW5 := Lib.hid hW5; clear hW5))
      go_end0
      exact ⟨rfl, HW5.out⟩
  · have hp2 : prB ts x = false := by simpa using hp
    have HS := Lib.hid (single_any hA hN hT0 hW.far hW.arena hW.names x hx)
    have hsz : (sg tS tB ts x).length ≤ 1000100 := sg_len hN.1 hA.ok x hx
    have HAD := Lib.hid (fun (wx : World) (F : MM.Far [] w wx) => add_any (hW.to F) (str (sg tS tB ts x)) hT (by show (sg tS tB ts x).length ≤ _; omega))
    rw [show bts (str (sg tS tB ts x)) = sg tS tB ts x from rfl] at HAD
    rw [hX]
    unfold wrt at hX
    rw [if_neg hp, if_pos rfl] at hX
    rw [hX] at HAD
    rw [hp2] at HPR
    clear hp hp2 hX hA hN hT0 H hW
    cases X with
    | error E =>
      go_enter Tryz.func43, Tryz.ntmps43
      go_wp2_with (first
        | (go_at_call 59; (with_reducible refine HPR.out.mono ?_); rintro e w' ⟨rfl, rfl⟩)
        | (go_at_call 62; (with_reducible refine HS.out.mono ?_); rintro e w4 ⟨rfl, hF4⟩; have HF4 := Lib.hid hF4; clear hF4)
        | (go_at_call 61; (with_reducible refine (HAD.out _ HF4.out).mono ?_); rintro e w5 ⟨rfl, hW5⟩; have HW5 := Lib.hid hW5; clear hW5))
      exact ⟨rfl, rfl, HW5.out⟩
    | ok T5 =>
      go_enter Tryz.func43, Tryz.ntmps43
      go_wp2_with (first
        | (go_at_call 59; (with_reducible refine HPR.out.mono ?_); rintro e w' ⟨rfl, rfl⟩)
        | (go_at_call 62; (with_reducible refine HS.out.mono ?_); rintro e w4 ⟨rfl, hF4⟩; have HF4 := Lib.hid hF4; clear hF4)
        | (go_at_call 61; (with_reducible refine (HAD.out _ HF4.out).mono ?_); rintro e w5 ⟨rfl, hW5⟩; have HW5 := Lib.hid hW5; clear hW5))
      go_end0
      exact ⟨rfl, HW5.out⟩
theorem word_any (hA : AW.Ar w0 p g h n ts) (hN : Nms w0 nv tS tB) (hT0 : Tab w0) (f : Nat) : WordH w0 q p nv tS tB ts f := by
  have : ∀ f k, k ≤ f → WordH w0 (q := q) p nv tS tB ts k := by
    intro f
    induction f with
    | zero =>
      intro k hk w T x _ h1 h2
      omega
    | succ f ih =>
      intro k hk
      rcases Nat.lt_or_ge f k with h1 | h1
      · obtain rfl : k = f + 1 := by omega
        exact word_step hA hN hT0 f ih
      · exact ih k h1
  exact this f f (Nat.le_refl _)
end
end SW
end Go.Proofs.YtbglcdjimipeeaaGreatDoor
/-
  Contract of the code's Word. Conditions: the arena's rows are as the list says; what the names' table tells; the numbers' table.
-/
namespace Go.Proofs.YtbglcdjimipeeaaGreatDoor
open Go.RowKit
namespace SX
theorem wrt_err {tS : Int → ByteArray} {tB : Int → Bool} {ts : List AP.Th} : ∀ (f : Nat) (m : Bool) (T : List UInt8) (x : Int) (E : List UInt8), 122 ≤ f + T.length → T.length ≤ 120 → wrt tS tB ts f m T x = .error E → 120 < E.length := by
  intro f
  induction f with
  | zero => intro m T x E h1 h2 h; omega
  | succ f ih =>
    intro m T x E h1 h2 h
    unfold wrt at h
    split at h
    · split at h
      · rename_i e he
        injection h with h
        subst h
        exact (ad_err he).2
      · rename_i T2 he
        obtain ⟨_, l2, g2⟩ := ad_ok he
        have : T.length + 1 = T2.length := by
          rw [← g2]; split <;> rfl
        split at h
        · rename_i e he2
          injection h with h
          subst h
          exact ih _ _ _ _ (by omega) l2 he2
        · rename_i T3 he3
          have := wr_len he3
          exact ih _ _ _ _ (by omega) (by omega) h
    split at h
    · exact (ad_err h).2
    split at h
    · exact (ad_err h).2
    split at h
    · rename_i e he
      injection h with h
      subst h
      exact (ad_err he).2
    · split at h
      · rename_i e he
        injection h with h
        subst h
        exact (ad_err he).2
      · exact (ad_err h).2
/-- A word's text, cut where it is too long. -/
def cutX (X : Except (List UInt8) (List UInt8)) : List UInt8 := match X with
  | .ok T => T
  | .error T => T.take 117 ++ [46, 46, 46]
end SX
namespace SW
open LX SX
open RC6 (form_)
theorem cell_bytes {w : World} {base : Nat} {bv : Value} {T : List UInt8} (h : w.ownsRow base 5 1 bv T.length (Lib.byteCells T)) : (bv = .slice none 0 0 ∧ T = []) ∨ ∃ g c, bv = .slice (some ⟨g, 0, none⟩) T.length c ∧ T.length ≤ c ∧ c ≤ maxLen ∧ ∀ j (hj : j < T.length), w.cell? ((⟨g, 0, none⟩ : Addr).add j) = some (.int .u8 (T[j].toNat : Int)) := by
  rcases h.2 with ⟨rfl, hz⟩ | ⟨g, cap, cur, rfl, hbg, hg, hn, hm, _⟩
  · exact .inl ⟨rfl, List.eq_nil_of_length_eq_zero hz⟩
  · refine .inr ⟨g, cap, rfl, hn, hm, fun j hj => ?_⟩
    exact h.cells (g := g) rfl j (.int .u8 (T[j].toNat : Int)) (by simp [Lib.byteCells, hj])
theorem ta_yes (w : World) : (Instr.typeAssert (.iface 100 (.agg #[])) 20 100 true).run Tryz.prog w = .ok (.tuple #[.agg #[], .bool true]) w := by kernel_rfl
theorem ta_no (w : World) : (Instr.typeAssert .nilIface 20 100 true).run Tryz.prog w = .ok (.tuple #[.agg #[], .bool false]) w := by kernel_rfl
set_option maxHeartbeats 200000 in
set_option maxRecDepth 20000 in
/-- The deferred closure, behind a panic of its own type. -/
theorem catch_yes {w : World} {q rp g c : Nat} {T : List UInt8} {m : Nat} (hm : T.length = m) (hc2 : w.cell? ⟨q, 2, none⟩ = some (.slice (some ⟨g, 0, none⟩) m c)) (hlo : 120 < m) (hcap : m ≤ c) (hcell : ∀ j (hj : j < T.length), w.cell? ((⟨g, 0, none⟩ : Addr).add j) = some (.int .u8 (T[j].toNat : Int)))
    (hg : g < w.heap.size) (hr : MM.Row w rp 9 [.string ⟨#[]⟩]) (older : List PanicEntry) :
    CallsD Tryz.prog 42 #[.pointer (some ⟨q, 0, none⟩), .pointer (some ⟨rp, 0, none⟩)] (.panicking ({ v := tooLong, recovered := false } :: older)) w fun e u' w' =>
      e = .returned (.tuple #[]) ∧ u' = .panicking ({ v := tooLong, recovered := true } :: older) ∧ MM.Far [rp] w w' ∧ MM.Row w' rp 9 [.string (str (T.take 117 ++ [46, 46, 46]))] := by
  refine callsD_of_wpS Tryz.func42 rfl fun c₀ cs hu => ?_
  apply wpS_seq
  apply wpS_region
  simp [wpOpsS, go_sem, recoverD, hu, Tryz.ntmps42, Exit.thenS, tooLong, ta_yes]
  refine wpS_of_wp ?_
  change Code.wp _ _ _ { tmps := #[.pointer (some ⟨q, 0, none⟩), .pointer (some ⟨rp, 0, none⟩), .pointer (some ⟨w.heap.size, 0, none⟩), .bool true, .tuple #[.agg #[], .bool true], .iface 100 (.agg #[]), .tuple #[.agg #[], .bool true], .agg #[], .bool true, undef, undef, undef, undef, undef, undef], defers := [] } _
  have hF := (MM.Far.refl [] w).alloc (.cells #[] 100)
  have hq := World.block_lt_of_cell? w _ hc2
  have k2 := (hF.cell (p := ⟨q, 2, none⟩) hq (by simp)).trans hc2
  have hr2 := hr.far hF (by simp)
  have hT := List.length_take (i := 117) (l := T)
  have hcv : ∀ W : World, MM.Far [] w W → (convert 72 9 (.slice (some ⟨g, 0, none⟩) 117 c)).run Tryz.prog W = .ok (.string (str (T.take 117))) W := fun W f => by
    have h1 : (T.take 117).length = 117 := by rw [hT]; omega
    have := run_convert_bytes_back (P := Tryz.prog) W 72 9 5 ⟨g, 0, none⟩ c (T.take 117) Tryz.underlying72 Tryz.underlying5 Tryz.underlying9 (fun j hj => by
      rw [f.cell (by rw [MM.add_block]; exact hg) (by simp), hcell j (by rw [h1] at hj; omega)]
      rw [List.getElem_take])
    rw [h1] at this
    exact this
  have hcv1 := hcv _ hF
  have f0 := hr2.frozen 0
  have r0 := hr2.at (i := 0) rfl
  have hsz : (str (T.take 117)).size ≤ 117 := by show (T.take 117).length ≤ 117; rw [hT]; omega
  have HE : Hid ((str (T.take 117)) ++ (⟨#[46, 46, 46]⟩ : ByteArray) = str (T.take 117 ++ [46, 46, 46])) := Lib.hid (str_app (str (T.take 117)) [46, 46, 46])
  have HF := Lib.hid hF
  have HR2 := Lib.hid hr2
  have HU := Lib.hid hu
  have hcI : (117 : Int) ≤ (c : Int) := by omega
  have hc0 : ¬ c = 0 := by omega
  clear hF hr hr2 hu hcell hcv hT hm hc2
  generalize w.alloc (.cells #[] 100) = W at *
  go_wp2
  rw [HE.out]
  have hE1 := (HF.out.mono (S' := [rp]) (by simp)).setCell (p := ⟨rp, 0, none⟩) (by simp) (.string (str (T.take 117 ++ [46, 46, 46])))
  have hE2 := HR2.out.put 0 (.string (str (T.take 117 ++ [46, 46, 46])))
  simp [bodyPostS, results, Tryz.results42]
  exact ⟨hE1, hE2⟩
set_option maxHeartbeats 200000 in
set_option maxRecDepth 20000 in
/-- The deferred closure, behind an ordinary end. -/
theorem catch_no {w : World} {a b : Value} : CallsD Tryz.prog 42 #[a, b] .returning w fun e u' w' => e = .returned (.tuple #[]) ∧ u' = .returning ∧ MM.Far [] w w' := by
  refine callsD_of_wpS Tryz.func42 rfl fun c₀ cs hu => ?_
  apply wpS_seq
  apply wpS_region
  simp [wpOpsS, go_sem, recoverD, hu, Tryz.ntmps42, Exit.thenS, ta_no]
  refine wpS_of_wp ?_
  change Code.wp _ _ _ { tmps := #[a, b, .pointer (some ⟨w.heap.size, 0, none⟩), .bool false, .tuple #[.agg #[], .bool false], .nilIface, .tuple #[.agg #[], .bool false], .agg #[], .bool false, undef, undef, undef, undef, undef, undef], defers := [] } _
  have hF := Lib.hid ((MM.Far.refl [] w).alloc (.cells #[] 100))
  generalize w.alloc (.cells #[] 100) = W at *
  go_wp2
  cases c₀
  simp_all [bodyPostS, results, Tryz.results42]
  exact hF.out
theorem Wp.start (w : World) (av nv : Value) : Wp w (w.alloc (.cells #[av, nv, .slice none 0 0] 98)) w.heap.size av nv [] :=
  ⟨.slice none 0 0, (MM.Far.refl [] w).alloc _, Nat.le_refl _, MM.Row.new w 98 [av, nv, .slice none 0 0], MO.none_ _ _ _ _⟩
set_option maxHeartbeats 1000000 in
set_option maxRecDepth 20000 in
theorem show_any {w : World} {na : Option Addr} {tS : Int → ByteArray} {tB : Int → Bool} {p g h n : Nat} {ts : List AP.Th} (hA : AW.Ar w p g h n ts) (hN : Nms w (.pointer na) tS tB) (hT : Tab w) (x : Int) (hx : WP.U x) :
    Calls Tryz.prog 20 #[AW.ptr p, .pointer na, .int .u64 x] w fun e w' => e = .returned (.string (str (cutX (wrt tS tB ts 122 false [] x)))) ∧ MM.Far [] w w' := by
  have hmf : ∀ (fn : Fn) (first cap : Array Value) (w : World), (Instr.makeFunc fn first cap).run Tryz.prog w = .ok (.func fn first cap) w := fun _ _ _ _ => rfl
  have hF1 := (MM.Far.refl [] w).alloc (.cells #[.string ⟨#[]⟩] 9)
  have hR1 := MM.Row.new w 9 [.string ⟨#[]⟩]
  have hN1 : Nms (w.alloc (.cells #[.string ⟨#[]⟩] 9)) (.pointer na) tS tB := ⟨hN.1, fun wx f i => hN.2 wx (hF1.trans f (by simp)) i⟩
  have HWD := Lib.hid (word_any (q := w.heap.size + 1) (hA.far hF1 (by simp) (by simp) (by simp)) hN1 (hT.far hF1) 122)
  have HS := Lib.hid (Wp.start (w.alloc (.cells #[.string ⟨#[]⟩] 9)) (AW.ptr p) (.pointer na))
  rw [show (w.alloc (.cells #[.string ⟨#[]⟩] 9)).heap.size = w.heap.size + 1 by simp] at HS
  rw [show w.alloc (.cells [Value.string ⟨#[]⟩].toArray 9) = w.alloc (.cells #[.string ⟨#[]⟩] 9) from rfl] at hR1
  obtain ⟨X, hX⟩ : ∃ X, wrt tS tB ts 122 false [] x = X := ⟨_, rfl⟩
  rw [hX]
  have HC := Lib.hid (HWD.out _ [] x HS.out (by simp) (by simp) hx)
  rw [hX] at HC
  have HF1 := Lib.hid hF1
  have HR1 := Lib.hid hR1
  have hXE := hX
  clear hF1 hR1 hN1 hX hA hN hT hx HWD HS
  have hl : ∀ T, X = .error T → 120 < T.length := fun T h => wrt_err _ _ _ _ _ (by decide) (by simp) (hXE.trans h)
  have HXE := Lib.hid hl
  clear hl hXE
  cases X with
  | ok T =>
    go_enter_defers Tryz.func20, Tryz.ntmps20
    go_wp2_with (fail)
    refine HC.out.mono ?_
    rintro e w3 ⟨rfl, hW3⟩
    obtain ⟨bv, hF3, hq3, hH3, hB3⟩ := hW3
    have c2 := hH3.at (i := 2) rfl
    have hR3 := HR1.out.far hF3 (by simp)
    have r0 := hR3.at (i := 0) rfl
    have f0 := hR3.frozen 0
    have HF3 := Lib.hid (HF1.out.trans hF3 (by simp))
    have HR3 := Lib.hid hR3
    have hcv : (convert 72 9 bv).run Tryz.prog w3 = .ok (.string (str T)) w3 := by
      rcases cell_bytes hB3 with ⟨rfl, rfl⟩ | ⟨gb, c, rfl, _, _, hcell⟩
      · exact run_convert_bytes_nil (P := Tryz.prog) w3 72 5 Tryz.underlying72 Tryz.underlying5 0 0 9 Tryz.underlying9
      · exact run_convert_bytes_back (P := Tryz.prog) w3 72 9 5 ⟨gb, 0, none⟩ c T Tryz.underlying72 Tryz.underlying5 Tryz.underlying9 hcell
    obtain ⟨bA, bc, hbv⟩ := form_ _ hB3
    obtain ⟨m, hm⟩ : ∃ m, T.length = m := ⟨_, rfl⟩
    rw [hm] at hbv
    subst hbv
    have HFX := Lib.hid (fun (W : World) (v : Value) (f : MM.Far [] w W) => f.setCell (p := ⟨w.heap.size, 0, none⟩) (fun h => absurd h (Nat.lt_irrefl _)) v)
    clear hF3 hq3 hH3 hB3 hR3 hm HC HF1 HR1
    generalize w.heap.size = rp at *
    go_wp2
    refine leaves_cons (f := 42) (args := #[.pointer (some ⟨rp + 1, 0, none⟩), .pointer (some ⟨rp, 0, none⟩)]) (by simp) (by simp [go_sem]) ?_
    refine catch_no.mono ?_
    rintro e u' w4 ⟨rfl, rfl, hF4⟩
    have hR4 := (HR3.out.put 0 (.string (str T))).far hF4 (by simp)
    have k0 := hR4.at (i := 0) rfl
    simp [Leaves, settle, results, Tryz.results20, go_sem, k0]
    exact ⟨rfl, (HFX.out _ _ HF3.out).trans hF4 (by simp)⟩
  | error T =>
    have hl := HXE.out T rfl
    go_enter_defers Tryz.func20, Tryz.ntmps20
    go_wp2_with (fail)
    refine HC.out.mono ?_
    rintro e w3 ⟨rfl, hW3⟩
    obtain ⟨bv, hF3, hq3, hH3, hB3⟩ := hW3
    have c2 := hH3.at (i := 2) rfl
    have hR3 := HR1.out.far hF3 (by simp)
    have HF3 := Lib.hid (HF1.out.trans hF3 (by simp))
    obtain ⟨gb, c, rfl, hcap, hcm, hcell⟩ : ∃ gb c, bv = .slice (some ⟨gb, 0, none⟩) T.length c ∧ T.length ≤ c ∧ c ≤ maxLen ∧ ∀ j (hj : j < T.length), w3.cell? ((⟨gb, 0, none⟩ : Addr).add j) = some (.int .u8 (T[j].toNat : Int)) := by
      rcases cell_bytes hB3 with ⟨_, rfl⟩ | h
      · simp at hl
      · exact h
    have hgb := (MM.own_lt hB3 gb rfl).1
    have HFX := Lib.hid (fun (W : World) (f : MM.Far [w.heap.size] w3 W) => HF3.out.trans f (fun b hb hl => by
      have : b = w.heap.size := by simpa using hb
      omega))
    clear hF3 hq3 hH3 hB3 HC HF1 HR1
    generalize w.heap.size = rp at *
    refine leaves_cons (f := 42) (args := #[.pointer (some ⟨rp + 1, 0, none⟩), .pointer (some ⟨rp, 0, none⟩)]) (by simp) (by simp [go_sem]) ?_
    refine (catch_yes rfl c2 hl hcap hcell hgb hR3 []).mono ?_
    rintro e u' w4 ⟨rfl, rfl, hF4, hR4⟩
    have k0 := hR4.at (i := 0) rfl
    simp [Leaves, settle, results, Tryz.results20, go_sem, k0]
    exact ⟨rfl, HFX.out _ hF4⟩
end SW
end Go.Proofs.YtbglcdjimipeeaaGreatDoor
/-
  What a word's text is when it is whole, and how it is cut. No condition.
-/
namespace Go.Proofs.YtbglcdjimipeeaaGreatDoor
namespace SX
open LX
/-- L is a word's whole text; or what follows a Pair's first word. -/
inductive Sh (tS : Int → ByteArray) (tB : Int → Bool) (ts : List AP.Th) : Bool → Int → List UInt8 → Prop
  | sing {x : Int} : prB ts x = false → Sh tS tB ts false x (sg tS tB ts x)
  | pair {m : Bool} {x : Int} {A B : List UInt8} : prB ts x = true → Sh tS tB ts false (AW.getW ts x 0) A → Sh tS tB ts true (AW.getW ts x 1) B → Sh tS tB ts m x ((if m = true then [32] else [40]) ++ A ++ B)
  | nil {x : Int} : prB ts x = false → x = 2 → Sh tS tB ts true x [41]
  | dot {x : Int} : prB ts x = false → x ≠ 2 → Sh tS tB ts true x ([32, 46, 32] ++ sg tS tB ts x ++ [41])
theorem sh_wrt {tS : Int → ByteArray} {tB : Int → Bool} {ts : List AP.Th} {m : Bool} {x : Int} {L : List UInt8} (h : Sh tS tB ts m x L) : ∀ (f : Nat) (T : List UInt8), T.length ≤ 120 → 122 ≤ f + T.length → match wrt tS tB ts f m T x with
    | .ok R => R = T ++ L
    | .error E => ∃ U, T ++ L = E ++ U := by
  induction h with
  | sing hp =>
    intro f T h1 h2
    obtain ⟨k, rfl⟩ : ∃ k, f = k + 1 := ⟨f - 1, by omega⟩
    unfold wrt
    rw [if_neg (by rw [hp]; decide), if_pos rfl]
    split
    · rename_i R hR
      exact (ad_ok hR).1
    · rename_i E hE
      exact ⟨[], by rw [(ad_err hE).1, List.append_nil]⟩
  | @pair m x A B hp _ _ iA iB =>
    intro f T h1 h2
    obtain ⟨k, rfl⟩ : ∃ k, f = k + 1 := ⟨f - 1, by omega⟩
    unfold wrt
    rw [if_pos hp]
    generalize hs : (if m = true then [32] else [40] : List UInt8) = s
    have hs1 : s.length = 1 := by rw [← hs]; split <;> rfl
    cases hT : ad T s with
    | error E => exact ⟨A ++ B, by simp only [(ad_err hT).1, List.append_assoc]⟩
    | ok T1 =>
      obtain ⟨e1, l1, g1⟩ := ad_ok hT
      simp only
      have := iA k T1 l1 (by omega)
      cases hA : wrt tS tB ts k false T1 (AW.getW ts x 0) with
      | error E =>
        rw [hA] at this
        obtain ⟨U, hU⟩ := this
        exact ⟨U ++ B, by rw [← List.append_assoc E, ← hU, e1]; simp only [List.append_assoc]⟩
      | ok T2 =>
        rw [hA] at this
        simp only at this ⊢
        obtain ⟨l2, g2⟩ := wr_len hA
        have h3 := iB k T2 l2 (by omega)
        split
        · rename_i R hR
          rw [hR] at h3
          simp only at h3
          rw [h3, this, e1]
          simp only [List.append_assoc]
        · rename_i E hE
          rw [hE] at h3
          obtain ⟨U, hU⟩ := h3
          exact ⟨U, by rw [← hU, this, e1]; simp only [List.append_assoc]⟩
  | nil hp hx =>
    intro f T h1 h2
    obtain ⟨k, rfl⟩ : ∃ k, f = k + 1 := ⟨f - 1, by omega⟩
    unfold wrt
    rw [if_neg (by rw [hp]; decide), if_neg (by decide), if_pos hx]
    split
    · rename_i R hR
      exact (ad_ok hR).1
    · rename_i E hE
      exact ⟨[], by rw [(ad_err hE).1, List.append_nil]⟩
  | dot hp hx =>
    intro f T h1 h2
    obtain ⟨k, rfl⟩ : ∃ k, f = k + 1 := ⟨f - 1, by omega⟩
    unfold wrt
    rw [if_neg (by rw [hp]; decide), if_neg (by decide), if_neg hx]
    rename_i x
    cases hT : ad T [32, 46, 32] with
    | error E => exact ⟨sg tS tB ts x ++ [41], by simp only [(ad_err hT).1, List.append_assoc]⟩
    | ok T1 =>
      obtain ⟨e1, l1, _⟩ := ad_ok hT
      simp only
      cases hT2 : ad T1 (sg tS tB ts x) with
      | error E => exact ⟨[41], by simp only [(ad_err hT2).1, e1, List.append_assoc]⟩
      | ok T2 =>
        obtain ⟨e2, _, _⟩ := ad_ok hT2
        simp only
        split
        · rename_i R hR
          rw [(ad_ok hR).1, e2, e1]
          simp only [List.append_assoc]
        · rename_i E hE
          exact ⟨[], by rw [(ad_err hE).1, e2, e1, List.append_nil]; simp only [List.append_assoc]⟩
/-- A text as it is shown. -/
def cutL (L : List UInt8) : List UInt8 := if L.length ≤ 120 then L else L.take 117 ++ [46, 46, 46]
theorem cut_sh {tS : Int → ByteArray} {tB : Int → Bool} {ts : List AP.Th} {x : Int} {L : List UInt8} (h : Sh tS tB ts false x L) : cutX (wrt tS tB ts 122 false [] x) = cutL L := by
  have h1 := sh_wrt h 122 [] (by simp) (by simp)
  unfold cutX cutL
  cases hX : wrt tS tB ts 122 false [] x with
  | ok R =>
    rw [hX] at h1
    simp only [List.nil_append] at h1
    have := (wr_len hX).1
    subst h1
    rw [if_pos this]
  | error E =>
    rw [hX] at h1
    obtain ⟨U, hU⟩ := h1
    have := wrt_err _ _ _ _ _ (by decide) (by simp) hX
    rw [List.nil_append] at hU
    subst hU
    rw [if_neg (by rw [List.length_append]; omega), List.take_append_of_le_length (by omega)]
/-! ### numbers -/
theorem enc_int (v : Int) (h : WP.inR v = true) : WP.toIntB (WP.encW v) = true ∧ WP.toIntN (WP.encW v) = v ∧ WP.encW v % 8 = 0 := by
  have e := WP.sgn_encW v h
  have hb : WP.toIntB (WP.encW v) = true := by
    rw [WP.toIntB_iff, e.1]
    rw [WP.inR_iff] at h
    exact ⟨e.2, h⟩
  refine ⟨hb, ?_, e.2⟩
  unfold WP.toIntN
  rw [if_pos hb]
  exact e.1
theorem sg_int (tS : Int → ByteArray) (tB : Int → Bool) (ts : List AP.Th) (v : Int) (h : WP.inR v = true) : sg tS tB ts (WP.encW v) = Lib.itoa v := by
  obtain ⟨h1, h2, h3⟩ := enc_int v h
  unfold sg
  rw [if_neg (by intro e; rw [e] at h3; omega), if_neg (by intro e; rw [e] at h3; omega), if_neg (by intro e; rw [e] at h3; omega), if_neg (by intro e; rw [e] at h3; omega), if_pos h1, h2]
theorem pr_no (ts : List AP.Th) (x : Int) (h : x % 8 ≠ 1) : prB ts x = false := by
  have : WP.toB 1 x = false := by
    rcases hb : WP.toB 1 x with _ | _
    · rfl
    · exact absurd ((WP.toB_iff 1 x).1 hb).2.1 h
  unfold prB AW.kindN AW.look
  rw [this]
  rfl
theorem sh_int (tS : Int → ByteArray) (tB : Int → Bool) (ts : List AP.Th) (v : Int) (h : WP.inR v = true) : Sh tS tB ts false (WP.encW v) (Lib.itoa v) := by
  rw [← sg_int tS tB ts v h]
  exact .sing (pr_no _ _ (by have := (enc_int v h).2.2; omega))
theorem sh_dot (tS : Int → ByteArray) (tB : Int → Bool) (ts : List AP.Th) (v : Int) (h : WP.inR v = true) : Sh tS tB ts true (WP.encW v) ([32, 46, 32] ++ Lib.itoa v ++ [41]) := by
  rw [← sg_int tS tB ts v h]
  have h3 := (enc_int v h).2.2
  exact .dot (pr_no _ _ (by omega)) (by intro e; rw [e] at h3; omega)
theorem sh_nil (tS : Int → ByteArray) (tB : Int → Bool) (ts : List AP.Th) : Sh tS tB ts true 2 [41] := .nil (pr_no _ _ (by decide)) rfl
end SX
end Go.Proofs.YtbglcdjimipeeaaGreatDoor
