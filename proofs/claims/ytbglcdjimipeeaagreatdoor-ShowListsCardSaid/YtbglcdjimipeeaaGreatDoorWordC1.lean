/-
  Contract of the printer's single and name. Conditions: the arena's rows are as the list says; what the names' table tells; the numbers' table.
-/
import Derived.Test.YtbglcdjimipeeaaGreatDoorWordMem
import Derived.Test.YtbglcdjimipeeaaGreatDoorShowItoa
namespace Go.Proofs.YtbglcdjimipeeaaGreatDoor
open Go.RowKit
namespace SX
open LX
def nmT (tS : Int → ByteArray) (tB : Int → Bool) (i : Int) : List UInt8 := if tB i = true then bts (tS i) else 35 :: 110 :: Lib.itoa i
/-- A word that is no Pair, as text. -/
def sg (tS : Int → ByteArray) (tB : Int → Bool) (ts : List AP.Th) (x : Int) : List UInt8 :=
  if x = 2 then [40, 41] else if x = 26 then [35, 117] else if x = 18 then [35, 116] else if x = 10 then [35, 102]
  else if WP.toIntB x = true then Lib.itoa (WP.toIntN x)
  else if WP.toB 3 x = true then nmT tS tB (WP.toN 3 x)
  else if WP.toB 4 x = true then 35 :: 104 :: Lib.itoa (WP.toN 4 x)
  else if AW.kindN ts x = 0 then [35, 63] else 35 :: Lib.itoa (AW.kindN ts x)
end SX
namespace SW
open LX SX
/-- What a table of names tells, from here on. -/
def Nms (w0 : World) (nv : Value) (tS : Int → ByteArray) (tB : Int → Bool) : Prop :=
  (∀ i, (tS i).size ≤ 1000000) ∧ ∀ (wx : World), MM.Far [] w0 wx → ∀ i, Calls Tryz.prog 97 #[nv, .int .i64 i] wx fun e w' => e = .returned (.tuple #[.string (tS i), .bool (tB i)]) ∧ MM.Far [] wx w'
section
variable {w0 w : World} {q : Nat} {nv : Value} {tS : Int → ByteArray} {tB : Int → Bool}
theorem ret_s {a b : ByteArray} (h : a = b) : Ending.returned (.string a) = .returned (.string b) := by rw [h]
theorem str_app (a : ByteArray) (l : List UInt8) : a ++ str l = str (bts a ++ l) := by
  apply ByteArray.ext
  simp [str, bts, ByteArray.data_append]
set_option maxHeartbeats 1000000 in
theorem name_any (hN : Nms w0 nv tS tB) (hT : Tab w0) (hF : MM.Far [] w0 w) (hq : w.cell? ⟨q, 1, none⟩ = some nv) (i : Int) (h0 : -9223372036854775808 ≤ i) (h1 : i ≤ 9223372036854775807) :
    Calls Tryz.prog 80 #[.pointer (some ⟨q, 0, none⟩), .int .i64 i] w fun e w' => e = .returned (.string (str (nmT tS tB i))) ∧ MM.Far [] w w' := by
  have HK := Lib.hid (hN.2 w hF i)
  have HT := Lib.hid hT
  have HF := Lib.hid hF
  have hl := Lib.itoa_length_le i h0 h1
  have hsz : (str (Lib.itoa i)).size ≤ 21 := by
    have h2 : (str (Lib.itoa i)).size = (Lib.itoa i).length := rfl
    omega
  clear hF hT hN hl
  cases hb : tB i with
  | true =>
    have HB := Lib.hid hb
    rw [hb] at HK
    clear hb
    go_enter Tryz.func80, Tryz.ntmps80
    go_wp2_with (first
      | (go_at_call 97; (with_reducible refine HK.out.mono ?_); rintro e w2 ⟨rfl, hF2⟩; have HF2 := Lib.hid hF2; clear hF2))
    go_ret
    exact ⟨ret_s (by unfold nmT; rw [if_pos HB.out]; unfold str bts; simp), HF2.out⟩
  | false =>
    have HB := Lib.hid hb
    rw [hb] at HK
    clear hb
    go_enter Tryz.func80, Tryz.ntmps80
    go_wp2_with (first
      | (go_at_call 97; (with_reducible refine HK.out.mono ?_); rintro e w2 ⟨rfl, hF2⟩; have HF2 := Lib.hid hF2; clear hF2)
      | (go_at_call 54; (refine (itoa_any i h0 h1 _ (HT.out.far (HF.out.trans HF2.out (by simp)))).mono ?_); rintro e w3 ⟨rfl, hF3⟩; have HF3 := Lib.hid hF3; clear hF3))
    go_ret
    refine ⟨ret_s ?_, HF2.out.trans HF3.out (by simp)⟩
    rw [str_app]
    unfold nmT
    rw [if_neg (by rw [HB.out]; decide)]
    rfl
theorem kindN_le {n : Nat} {ts : List AP.Th} (hO : AW.Ok n ts) (x : Int) : 0 ≤ AW.kindN ts x ∧ AW.kindN ts x ≤ 9 := by
  unfold AW.kindN
  split
  · omega
  · rename_i i hi
    rcases Nat.lt_or_ge i ts.length with h | h
    · have := hO.each i h
      omega
    · have : (AP.th ts i).k = 0 := by
        unfold AP.th
        rw [List.getD_eq_getElem?_getD, List.getElem?_eq_none h]; rfl
      omega
theorem hsz_itoa (i : Int) (h0 : -9223372036854775808 ≤ i) (h1 : i ≤ 9223372036854775807) : (str (Lib.itoa i)).size ≤ 21 := by
  have h2 : (str (Lib.itoa i)).size = (Lib.itoa i).length := rfl
  have := Lib.itoa_length_le i h0 h1
  omega
/-- What single comes to. -/
def SgP (w : World) (l : List UInt8) (e : Ending) (w' : World) : Prop := e = .returned (.string (str l)) ∧ MM.Far [] w w'
set_option maxHeartbeats 2000000 in
set_option maxRecDepth 20000 in
theorem single_any {p g h n : Nat} {ts : List AP.Th} (hA : AW.Ar w0 p g h n ts) (hN : Nms w0 nv tS tB) (hT : Tab w0) (hF : MM.Far [] w0 w) (hq : w.cell? ⟨q, 0, none⟩ = some (AW.ptr p)) (hq1 : w.cell? ⟨q, 1, none⟩ = some nv) (x : Int) (hx : WP.U x) :
    Calls Tryz.prog 62 #[.pointer (some ⟨q, 0, none⟩), .int .u64 x] w (SgP w (sg tS tB ts x)) := by
  have HA := Lib.hid hA
  have HT := Lib.hid hT
  have HF := Lib.hid hF
  have HN := Lib.hid hN
  have HQ1 := Lib.hid hq1
  have HX := Lib.hid hx
  clear hA hT hF hN hq1 hx
  by_cases x2 : x = 2
  · subst x2
    have HE : Hid (sg tS tB ts 2 = [40, 41]) := Lib.hid (by unfold sg; rfl)
    rw [HE.out]
    go_enter Tryz.func62, Tryz.ntmps62
    go_wp2
    go_ret
    exact ⟨rfl, MM.Far.refl [] _⟩
  by_cases x26 : x = 26
  · subst x26
    have HE : Hid (sg tS tB ts 26 = [35, 117]) := Lib.hid (by unfold sg; rfl)
    rw [HE.out]
    clear x2
    go_enter Tryz.func62, Tryz.ntmps62
    go_wp2
    go_ret
    exact ⟨rfl, MM.Far.refl [] _⟩
  by_cases x18 : x = 18
  · subst x18
    have HE : Hid (sg tS tB ts 18 = [35, 116]) := Lib.hid (by unfold sg; rfl)
    rw [HE.out]
    clear x2 x26
    go_enter Tryz.func62, Tryz.ntmps62
    go_wp2
    go_ret
    exact ⟨rfl, MM.Far.refl [] _⟩
  by_cases x10 : x = 10
  · subst x10
    have HE : Hid (sg tS tB ts 10 = [35, 102]) := Lib.hid (by unfold sg; rfl)
    rw [HE.out]
    clear x2 x26 x18
    go_enter Tryz.func62, Tryz.ntmps62
    go_wp2
    go_ret
    exact ⟨rfl, MM.Far.refl [] _⟩
  have b2 : (x == 2) = false := by rw [beq_eq_false_iff_ne]; exact x2
  have b26 : (x == 26) = false := by rw [beq_eq_false_iff_ne]; exact x26
  have b18 : (x == 18) = false := by rw [beq_eq_false_iff_ne]; exact x18
  have b10 : (x == 10) = false := by rw [beq_eq_false_iff_ne]; exact x10
  have HE0 : Hid (sg tS tB ts x = if WP.toIntB x = true then Lib.itoa (WP.toIntN x) else if WP.toB 3 x = true then nmT tS tB (WP.toN 3 x) else if WP.toB 4 x = true then 35 :: 104 :: Lib.itoa (WP.toN 4 x) else if AW.kindN ts x = 0 then [35, 63] else 35 :: Lib.itoa (AW.kindN ts x)) := Lib.hid (by
    unfold sg; rw [if_neg x2, if_neg x26, if_neg x18, if_neg x10])
  have HI := Lib.hid (fun (wx : World) => WW.toint_any x HX.out wx)
  have HO3 := Lib.hid (fun (wx : World) => WW.to_any 3 x HX.out wx)
  have HO4 := Lib.hid (fun (wx : World) => WW.to_any 4 x HX.out wx)
  have HK := Lib.hid (AW.kind_any (HA.out.far HF.out (by simp) (by simp) (by simp)) x HX.out)
  have hkn := kindN_le HA.out.ok x
  have HKN := Lib.hid hkn
  clear hkn
  cases hi : WP.toIntB x with
  | true =>
    rw [hi] at HI HE0
    have HV : Hid (-9223372036854775808 ≤ WP.toIntN x ∧ WP.toIntN x ≤ 9223372036854775807) := Lib.hid (by
      have h0 := (WP.toIntB_iff x).1 hi
      unfold WP.toIntN
      rw [if_pos hi]
      omega)
    generalize WP.toIntN x = v at *
    clear hi
    go_enter Tryz.func62, Tryz.ntmps62
    go_wp2_with (first
      | (go_at_call 78; (with_reducible refine (HI.out _).mono ?_); rintro e w' ⟨rfl, rfl⟩)
      | (go_at_call 54; (refine (itoa_any v HV.out.1 HV.out.2 _ (HT.out.far HF.out)).mono ?_); rintro e w3 ⟨rfl, hF3⟩; have HF3 := Lib.hid hF3; clear hF3))
    go_ret
    rw [HE0.out]
    exact ⟨rfl, HF3.out⟩
  | false =>
    rw [hi] at HI HE0
    clear hi
    cases h3 : WP.toB 3 x with
    | true =>
      rw [h3] at HO3 HE0
      have HV : Hid (-9223372036854775808 ≤ WP.toN 3 x ∧ WP.toN 3 x ≤ 9223372036854775807) := Lib.hid (by
        have h0 := (WP.toB_iff 3 x).1 h3
        have := HX.out
        unfold WP.U at this
        unfold WP.toN
        rw [if_pos h3]
        omega)
      generalize WP.toN 3 x = v at *
      clear h3
      go_enter Tryz.func62, Tryz.ntmps62
      go_wp2_with (first
        | (go_at_call 78; (with_reducible refine (HI.out _).mono ?_); rintro e w' ⟨rfl, rfl⟩)
        | (go_at_call 79; (with_reducible refine (HO3.out _).mono ?_); rintro e w' ⟨rfl, rfl⟩)
        | (go_at_call 80; (refine (name_any HN.out HT.out HF.out HQ1.out v HV.out.1 HV.out.2).mono ?_); rintro e w3 ⟨rfl, hF3⟩; have HF3 := Lib.hid hF3; clear hF3))
      go_ret
      rw [HE0.out]
      exact ⟨rfl, HF3.out⟩
    | false =>
      rw [h3] at HO3 HE0
      clear h3
      cases h4 : WP.toB 4 x with
      | true =>
        rw [h4] at HO4 HE0
        have HV : Hid (-9223372036854775808 ≤ WP.toN 4 x ∧ WP.toN 4 x ≤ 9223372036854775807) := Lib.hid (by
          have h0 := (WP.toB_iff 4 x).1 h4
          have := HX.out
          unfold WP.U at this
          unfold WP.toN
          rw [if_pos h4]
          omega)
        generalize WP.toN 4 x = v at *
        have hsz := hsz_itoa v HV.out.1 HV.out.2
        clear h4
        go_enter Tryz.func62, Tryz.ntmps62
        go_wp2_with (first
          | (go_at_call 78; (with_reducible refine (HI.out _).mono ?_); rintro e w' ⟨rfl, rfl⟩)
          | (go_at_call 79; (with_reducible refine (HO3.out _).mono ?_); rintro e w' ⟨rfl, rfl⟩)
          | (go_at_call 79; (with_reducible refine (HO4.out _).mono ?_); rintro e w' ⟨rfl, rfl⟩)
          | (go_at_call 54; (refine (itoa_any v HV.out.1 HV.out.2 _ (HT.out.far HF.out)).mono ?_); rintro e w3 ⟨rfl, hF3⟩; have HF3 := Lib.hid hF3; clear hF3))
        go_ret
        rw [HE0.out]
        exact ⟨ret_s (by rw [str_app]; rfl), HF3.out⟩
      | false =>
        rw [h4] at HO4 HE0
        clear h4
        have HV : Hid (-9223372036854775808 ≤ AW.kindN ts x ∧ AW.kindN ts x ≤ 9223372036854775807) := Lib.hid (by have := HKN.out; omega)
        generalize AW.kindN ts x = v at *
        by_cases hv : v = 0
        · subst hv
          go_enter Tryz.func62, Tryz.ntmps62
          go_wp2_with (first
            | (go_at_call 78; (with_reducible refine (HI.out _).mono ?_); rintro e w' ⟨rfl, rfl⟩)
            | (go_at_call 79; (with_reducible refine (HO3.out _).mono ?_); rintro e w' ⟨rfl, rfl⟩)
            | (go_at_call 79; (with_reducible refine (HO4.out _).mono ?_); rintro e w' ⟨rfl, rfl⟩)
            | (go_at_call 75; (with_reducible refine HK.out.mono ?_); rintro e w' ⟨rfl, rfl⟩))
          go_ret
          rw [HE0.out]
          exact ⟨rfl, MM.Far.refl [] _⟩
        · have c1 : (v == 0) = false := by rw [beq_eq_false_iff_ne]; exact hv
          have c2 : (v != 0) = true := by simp [bne, c1]
          have hsz := hsz_itoa v HV.out.1 HV.out.2
          go_enter Tryz.func62, Tryz.ntmps62
          go_wp2_with (first
            | (go_at_call 78; (with_reducible refine (HI.out _).mono ?_); rintro e w' ⟨rfl, rfl⟩)
            | (go_at_call 79; (with_reducible refine (HO3.out _).mono ?_); rintro e w' ⟨rfl, rfl⟩)
            | (go_at_call 79; (with_reducible refine (HO4.out _).mono ?_); rintro e w' ⟨rfl, rfl⟩)
            | (go_at_call 75; (with_reducible refine HK.out.mono ?_); rintro e w' ⟨rfl, rfl⟩)
            | (go_at_call 54; (refine (itoa_any v HV.out.1 HV.out.2 _ (HT.out.far HF.out)).mono ?_); rintro e w3 ⟨rfl, hF3⟩; have HF3 := Lib.hid hF3; clear hF3))
          go_ret
          rw [HE0.out, if_neg (by decide), if_neg (by decide), if_neg (by decide), if_neg hv]
          exact ⟨ret_s (by rw [str_app]; rfl), HF3.out⟩
end
end SW
end Go.Proofs.YtbglcdjimipeeaaGreatDoor
