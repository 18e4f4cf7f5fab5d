/-
  Contracts of the document's own pair, plain, text and Word. Conditions: the document's arena is as the list says; what the document's row of names tells.
-/
import Derived.Test.YtbglcdjimipeeaaGreatDoorShowRefP
import Derived.Test.YtbglcdjimipeeaaGreatDoorShowDigits
import Derived.Test.YtbglcdjimipeeaaGreatDoorRefAll
import Derived.Test.YtbglcdjimipeeaaGreatDoorWordWalks3
import Derived.Deep.LoopGhost
import Derived.Deep.DeepCutAuto
namespace Go.Proofs.YtbglcdjimipeeaaGreatDoor
open Go.RowKit
namespace SW
open LX SX
/-- What a row of names of the document's tells, from here on. -/
def RNm (w0 : World) (nv : Value) (tS : Int → ByteArray) (tB : Int → Bool) : Prop :=
  (∀ i, (tS i).size ≤ 1000000) ∧ ∀ (wx : World), MM.Far [] w0 wx → ∀ i, Calls Tryz.prog 85 #[nv, .int .i64 i] wx fun e w' => e = .returned (.tuple #[.string (tS i), .bool (tB i)]) ∧ MM.Far [] wx w'
section
variable {w0 w : World} {base q n nl nc : Nat} {nA : Option Addr} {v : Value} {tS : Int → ByteArray} {tB : Int → Bool} {ts : List AP.Th} {hs : List Value}
theorem rr_far (h : RW.Rr w0 base q n v ts hs) (f : MM.Far [] w0 w) : RW.Rr w base q n v ts hs := h.far f (by simp)
theorem rpair_any (hA : RW.Rr w base q n v ts hs) (x : Int) (hx : WP.U x) : Calls Tryz.prog 63 #[AW.ptr q, .int .u64 x] w fun e w' => e = .returned (.bool (prB ts x)) ∧ w = w' := by
  have HK := Lib.hid (RW.rkind_any hA x hx)
  have HL := Lib.hid (RW.rlen_any hA x hx)
  have HP : Hid (prB ts x = (decide (AW.kindN ts x = 1) && decide (AW.lenN ts x = 2))) := Lib.hid rfl
  generalize AW.kindN ts x = k at *
  generalize AW.lenN ts x = m at *
  obtain ⟨kb, hkb⟩ : ∃ kb, (k == 1) = kb := ⟨_, rfl⟩
  have hkd : decide (k = 1) = kb := by rw [← hkb]; rfl
  rw [hkd] at HP
  clear hA hkd
  cases kb
  all_goals
    go_enter Tryz.func63, Tryz.ntmps63
    go_wp2_with (first
      | (go_at_call 81; (with_reducible refine HK.out.mono ?_); rintro e w' ⟨rfl, rfl⟩)
      | (go_at_call 82; (with_reducible refine HL.out.mono ?_); rintro e w' ⟨rfl, rfl⟩))
    go_ret
    rw [HP.out]
    exact ⟨rfl, rfl⟩
set_option maxHeartbeats 2000000 in
set_option maxRecDepth 20000 in
theorem plain_any (hA : RW.Rr w base q n v ts hs) (hN : RNm w (.slice nA nl nc) tS tB) (x : Int) (hx : WP.U x) :
    Calls Tryz.prog 64 #[AW.ptr q, .slice nA nl nc, .int .u64 x] w (SgP w (sg tS tB ts x)) := by
  have HX := Lib.hid hx
  have HN := Lib.hid hN
  have HI := Lib.hid (fun (wx : World) => WW.rtoint_any x HX.out wx)
  have HO3 := Lib.hid (fun (wx : World) => WW.rto_any 3 x HX.out wx)
  have HO4 := Lib.hid (fun (wx : World) => WW.rto_any 4 x HX.out wx)
  have HK := Lib.hid (RW.rkind_any hA x HX.out)
  have HKN := Lib.hid (kindN_le hA.ok x)
  clear hx hN hA
  by_cases x2 : x = 2
  · subst x2
    have HE : Hid (sg tS tB ts 2 = [40, 41]) := Lib.hid (by unfold sg; rfl)
    rw [HE.out]
    rw [show WP.toIntB 2 = false from by decide] at HI
    go_enter Tryz.func64, Tryz.ntmps64
    go_wp2_with (first
      | (go_at_call 83; (with_reducible refine (HI.out _).mono ?_); rintro e w' ⟨rfl, rfl⟩))
    go_ret
    exact ⟨rfl, MM.Far.refl [] _⟩
  by_cases x26 : x = 26
  · subst x26
    have HE : Hid (sg tS tB ts 26 = [35, 117]) := Lib.hid (by unfold sg; rfl)
    rw [HE.out]
    rw [show WP.toIntB 26 = false from by decide] at HI
    clear x2
    go_enter Tryz.func64, Tryz.ntmps64
    go_wp2_with (first
      | (go_at_call 83; (with_reducible refine (HI.out _).mono ?_); rintro e w' ⟨rfl, rfl⟩))
    go_ret
    exact ⟨rfl, MM.Far.refl [] _⟩
  by_cases x18 : x = 18
  · subst x18
    have HE : Hid (sg tS tB ts 18 = [35, 116]) := Lib.hid (by unfold sg; rfl)
    rw [HE.out]
    rw [show WP.toIntB 18 = false from by decide] at HI
    clear x2 x26
    go_enter Tryz.func64, Tryz.ntmps64
    go_wp2_with (first
      | (go_at_call 83; (with_reducible refine (HI.out _).mono ?_); rintro e w' ⟨rfl, rfl⟩))
    go_ret
    exact ⟨rfl, MM.Far.refl [] _⟩
  by_cases x10 : x = 10
  · subst x10
    have HE : Hid (sg tS tB ts 10 = [35, 102]) := Lib.hid (by unfold sg; rfl)
    rw [HE.out]
    rw [show WP.toIntB 10 = false from by decide] at HI
    clear x2 x26 x18
    go_enter Tryz.func64, Tryz.ntmps64
    go_wp2_with (first
      | (go_at_call 83; (with_reducible refine (HI.out _).mono ?_); rintro e w' ⟨rfl, rfl⟩))
    go_ret
    exact ⟨rfl, MM.Far.refl [] _⟩
  have b2 : (x == 2) = false := by rw [beq_eq_false_iff_ne]; exact x2
  have b26 : (x == 26) = false := by rw [beq_eq_false_iff_ne]; exact x26
  have b18 : (x == 18) = false := by rw [beq_eq_false_iff_ne]; exact x18
  have b10 : (x == 10) = false := by rw [beq_eq_false_iff_ne]; exact x10
  have HE0 : Hid (sg tS tB ts x = if WP.toIntB x = true then Lib.itoa (WP.toIntN x) else if WP.toB 3 x = true then nmT tS tB (WP.toN 3 x) else if WP.toB 4 x = true then 35 :: 104 :: Lib.itoa (WP.toN 4 x) else if AW.kindN ts x = 0 then [35, 63] else 35 :: Lib.itoa (AW.kindN ts x)) := Lib.hid (by
    unfold sg; rw [if_neg x2, if_neg x26, if_neg x18, if_neg x10])
  cases hi : WP.toIntB x with
  | true =>
    rw [hi] at HI HE0
    have HV : Hid (-9223372036854775808 ≤ WP.toIntN x ∧ WP.toIntN x ≤ 9223372036854775807) := Lib.hid (by
      have h0 := (WP.toIntB_iff x).1 hi
      unfold WP.toIntN
      rw [if_pos hi]
      omega)
    generalize WP.toIntN x = v at *
    clear hi
    go_enter Tryz.func64, Tryz.ntmps64
    go_wp2_with (first
      | (go_at_call 83; (with_reducible refine (HI.out _).mono ?_); rintro e w' ⟨rfl, rfl⟩)
      | (go_at_call 25; (refine (digits_any v HV.out.1 HV.out.2 _).mono ?_); rintro e w3 ⟨rfl, hF3⟩; have HF3 := Lib.hid hF3; clear hF3))
    go_ret
    rw [HE0.out]
    exact ⟨rfl, HF3.out⟩
  | false =>
    rw [hi] at HI HE0
    clear hi
    cases h3 : WP.toB 3 x with
    | true =>
      rw [h3] at HO3 HE0
      have HV : Hid (-9223372036854775808 ≤ WP.toN 3 x ∧ WP.toN 3 x ≤ 9223372036854775807) := Lib.hid (by
        have h0 := (WP.toB_iff 3 x).1 h3
        have := HX.out
        unfold WP.U at this
        unfold WP.toN
        rw [if_pos h3]
        omega)
      generalize WP.toN 3 x = v at *
      have HT := Lib.hid (HN.out.2 w (MM.Far.refl [] w) v)
      have hsz := hsz_itoa v HV.out.1 HV.out.2
      clear h3
      cases hb : tB v with
      | true =>
        have HB := Lib.hid hb
        rw [hb] at HT
        clear hb
        go_enter Tryz.func64, Tryz.ntmps64
        go_wp2_with (first
          | (go_at_call 83; (with_reducible refine (HI.out _).mono ?_); rintro e w' ⟨rfl, rfl⟩)
          | (go_at_call 84; (with_reducible refine (HO3.out _).mono ?_); rintro e w' ⟨rfl, rfl⟩)
          | (go_at_call 85; (with_reducible refine HT.out.mono ?_); rintro e w2 ⟨rfl, hF2⟩; have HF2 := Lib.hid hF2; clear hF2))
        go_ret
        rw [HE0.out]
        exact ⟨ret_s (by
          rw [if_neg (by decide), if_pos trivial]
          unfold nmT; rw [if_pos HB.out]; unfold str bts; simp), HF2.out⟩
      | false =>
        have HB := Lib.hid hb
        rw [hb] at HT
        clear hb
        go_enter Tryz.func64, Tryz.ntmps64
        go_wp2_with (first
          | (go_at_call 83; (with_reducible refine (HI.out _).mono ?_); rintro e w' ⟨rfl, rfl⟩)
          | (go_at_call 84; (with_reducible refine (HO3.out _).mono ?_); rintro e w' ⟨rfl, rfl⟩)
          | (go_at_call 85; (with_reducible refine HT.out.mono ?_); rintro e w2 ⟨rfl, hF2⟩; have HF2 := Lib.hid hF2; clear hF2)
          | (go_at_call 25; (refine (digits_any v HV.out.1 HV.out.2 _).mono ?_); rintro e w3 ⟨rfl, hF3⟩; have HF3 := Lib.hid hF3; clear hF3))
        go_ret
        rw [HE0.out]
        refine ⟨ret_s ?_, HF2.out.trans HF3.out (by simp)⟩
        rw [if_neg (by decide), if_pos trivial, str_app]
        unfold nmT
        rw [if_neg (by rw [HB.out]; decide)]
        rfl
    | false =>
      rw [h3] at HO3 HE0
      clear h3
      cases h4 : WP.toB 4 x with
      | true =>
        rw [h4] at HO4 HE0
        have HV : Hid (-9223372036854775808 ≤ WP.toN 4 x ∧ WP.toN 4 x ≤ 9223372036854775807) := Lib.hid (by
          have h0 := (WP.toB_iff 4 x).1 h4
          have := HX.out
          unfold WP.U at this
          unfold WP.toN
          rw [if_pos h4]
          omega)
        generalize WP.toN 4 x = v at *
        have hsz := hsz_itoa v HV.out.1 HV.out.2
        clear h4
        go_enter Tryz.func64, Tryz.ntmps64
        go_wp2_with (first
          | (go_at_call 83; (with_reducible refine (HI.out _).mono ?_); rintro e w' ⟨rfl, rfl⟩)
          | (go_at_call 84; (with_reducible refine (HO3.out _).mono ?_); rintro e w' ⟨rfl, rfl⟩)
          | (go_at_call 84; (with_reducible refine (HO4.out _).mono ?_); rintro e w' ⟨rfl, rfl⟩)
          | (go_at_call 25; (refine (digits_any v HV.out.1 HV.out.2 _).mono ?_); rintro e w3 ⟨rfl, hF3⟩; have HF3 := Lib.hid hF3; clear hF3))
        go_ret
        rw [HE0.out]
        exact ⟨ret_s (by rw [str_app]; rfl), HF3.out⟩
      | false =>
        rw [h4] at HO4 HE0
        clear h4
        have HV : Hid (-9223372036854775808 ≤ AW.kindN ts x ∧ AW.kindN ts x ≤ 9223372036854775807) := Lib.hid (by have := HKN.out; omega)
        have hk0 := HKN.out.1
        generalize AW.kindN ts x = v at *
        by_cases hv : v = 0
        · subst hv
          go_enter Tryz.func64, Tryz.ntmps64
          go_wp2_with (first
            | (go_at_call 83; (with_reducible refine (HI.out _).mono ?_); rintro e w' ⟨rfl, rfl⟩)
            | (go_at_call 84; (with_reducible refine (HO3.out _).mono ?_); rintro e w' ⟨rfl, rfl⟩)
            | (go_at_call 84; (with_reducible refine (HO4.out _).mono ?_); rintro e w' ⟨rfl, rfl⟩)
            | (go_at_call 81; (with_reducible refine HK.out.mono ?_); rintro e w' ⟨rfl, rfl⟩))
          go_ret
          rw [HE0.out]
          exact ⟨rfl, MM.Far.refl [] _⟩
        · have c1 : (0 : Int) < v := by omega
          have hsz := hsz_itoa v HV.out.1 HV.out.2
          go_enter Tryz.func64, Tryz.ntmps64
          go_wp2_with (first
            | (go_at_call 83; (with_reducible refine (HI.out _).mono ?_); rintro e w' ⟨rfl, rfl⟩)
            | (go_at_call 84; (with_reducible refine (HO3.out _).mono ?_); rintro e w' ⟨rfl, rfl⟩)
            | (go_at_call 84; (with_reducible refine (HO4.out _).mono ?_); rintro e w' ⟨rfl, rfl⟩)
            | (go_at_call 81; (with_reducible refine HK.out.mono ?_); rintro e w' ⟨rfl, rfl⟩)
            | (go_at_call 25; (refine (digits_any v HV.out.1 HV.out.2 _).mono ?_); rintro e w3 ⟨rfl, hF3⟩; have HF3 := Lib.hid hF3; clear hF3))
          go_ret
          rw [HE0.out, if_neg (by decide), if_neg (by decide), if_neg (by decide), if_neg hv]
          exact ⟨ret_s (by rw [str_app]; rfl), HF3.out⟩
theorem RNm.far {nv : Value} (h : RNm w0 nv tS tB) (f : MM.Far [] w0 w) : RNm w nv tS tB := ⟨h.1, fun wx g i => h.2 wx (f.trans g (by simp)) i⟩
def TxH (w0 : World) (q nl nc : Nat) (nA : Option Addr) (tS : Int → ByteArray) (tB : Int → Bool) (ts : List AP.Th) (g : Nat) : Prop :=
  ∀ (w : World) (T : List UInt8) (x : Int), MM.Far [] w0 w → T.length ≤ 400000000 → WP.U x → 1 ≤ g → g ≤ 300 → (T.length ≤ 120 → 243 ≤ g + 2 * T.length) →
    Calls Tryz.prog 44 #[.string (str T), AW.ptr q, .slice nA nl nc, .int .u64 x] w fun e w' => e = .returned (.string (str (rx tS tB ts g false T x))) ∧ MM.Far [] w w'
/-- At the head of text's loop. -/
structure TxI (w : World) (tS : Int → ByteArray) (tB : Int → Bool) (ts : List AP.Th) (D : List UInt8) (k g : Nat) (T : List UInt8) (y : Int) (wz : World) : Prop where
  far : MM.Far [] w wz
  len : T.length ≤ 400000000
  u : WP.U y
  lo : 1 ≤ k
  hi : k ≤ g
  cond : T.length ≤ 120 → 244 ≤ k + 2 * T.length
  eq : rx tS tB ts k true T y = D
set_option maxHeartbeats 2000000 in
set_option maxRecDepth 20000 in
theorem text_step (hA : RW.Rr w0 base q n v ts hs) (hN : RNm w0 (.slice nA nl nc) tS tB) (g : Nat) (H : ∀ k, k ≤ g → TxH w0 q nl nc nA tS tB ts k) : TxH w0 q nl nc nA tS tB ts (g + 1) := by
  intro w T x hF hT hx _ h300 hc
  have hsT : (str T).size ≤ 400000000 := hT
  have HP := Lib.hid (fun (wx : World) (f : MM.Far [] w wx) (y : Int) (hy : WP.U y) => rpair_any (rr_far hA (hF.trans f (by simp))) y hy)
  have HG := Lib.hid (fun (wx : World) (f : MM.Far [] w wx) (y : Int) (hy : WP.U y) (j : Int) => RW.rget_any (rr_far hA (hF.trans f (by simp))) y hy j)
  have HL := Lib.hid (fun (wx : World) (f : MM.Far [] w wx) (y : Int) (hy : WP.U y) => plain_any (rr_far hA (hF.trans f (by simp))) (hN.far (hF.trans f (by simp))) y hy)
  have HU := Lib.hid (fun (y j : Int) => getW_u hA.ok y j)
  have HSG := Lib.hid (fun (y : Int) (hy : WP.U y) => sg_len (tB := tB) hN.1 hA.ok y hy)
  have HLEN := Lib.hid (fun (k : Nat) (T : List UInt8) (y : Int) (hy : WP.U y) (hT : T.length ≤ 121) => rx_len (tS := tS) (tB := tB) (ts := ts) HSG.out HU.out k false T y hy hT)
  have HH := Lib.hid H
  have HX := Lib.hid hx
  have HF := Lib.hid hF
  have hsz : (str T).size = T.length := rfl
  clear hA hN H hx hF
  by_cases hl : 120 < T.length
  · rw [rx_long _ _ _ _ hl]
    clear hc
    go_enter Tryz.func44, Tryz.ntmps44
    go_wp2
    go_ret
    exact ⟨rfl, MM.Far.refl [] _⟩
  · have h243 := hc (by omega)
    have HP0 := Lib.hid (HP.out w (MM.Far.refl [] w) x HX.out)
    obtain ⟨D, hD⟩ : ∃ D, rx tS tB ts (g + 1) false T x = D := ⟨_, rfl⟩
    rw [hD]
    unfold rx at hD
    rw [if_neg hl] at hD
    by_cases hp : prB ts x = true
    · rw [hp] at HP0
      rw [if_pos hp] at hD
      have HI0 : ∀ W, MM.Far [] w W → Hid (TxI w tS tB ts D g g (T ++ [40]) x W) := fun W f => Lib.hid ⟨f, by rw [List.length_append, List.length_singleton]; omega, HX.out, by omega, Nat.le_refl _, fun h => by rw [List.length_append, List.length_singleton] at *; omega, hD⟩
      have HS0 := Lib.hid (str_two T [40])
      clear hD hp hc
      go_enter Tryz.func44, Tryz.ntmps44
      go_wp2_with (first
        | (go_at_call 63; (with_reducible refine HP0.out.mono ?_); rintro e w' ⟨rfl, rfl⟩))
      go_loopg [0, 3] g (fun k s0 s3 wz => ∃ (T1 : List UInt8) (y : Int), s0 = .string (str T1) ∧ s3 = .int .u64 y ∧ TxI w tS tB ts D k g T1 y wz)
      case atStart => exact ⟨T ++ [40], x, by rw [← HS0.out]; rfl, rfl, (HI0 _ (MM.Far.refl [] _)).out⟩
      case round =>
        obtain ⟨T1, y, rfl, rfl, hI⟩ := hrel
        obtain ⟨iF, iL, iU, iLo, iHi, iC, iE⟩ := hI
        have HIF := Lib.hid iF
        have HIU := Lib.hid iU
        have hs1 : (str T1).size ≤ 400000000 := iL
        have hsz1 : (str T1).size = T1.length := rfl
        clear iF iU HI0
        by_cases hl1 : 120 < T1.length
        · rw [rx_long _ _ _ _ hl1] at iE
          have HE := Lib.hid iE
          clear iE iC
          go_wp2
          go_ret
          rw [HE.out]
          exact ⟨rfl, HIF.out⟩
        · have h244 := iC (by omega)
          obtain ⟨k1, rfl⟩ : ∃ k1, gk = k1 + 1 := ⟨gk - 1, by omega⟩
          unfold rx at iE
          rw [if_neg hl1] at iE
          have HTX := Lib.hid (fun (wx : World) (f : MM.Far [] w wx) => HH.out k1 (by omega) wx T1 (AW.getW ts y 0) (HF.out.trans f (by simp)) iL (HU.out _ _) (by omega) (by omega) (fun _ => by omega))
          have hRl := HLEN.out k1 T1 (AW.getW ts y 0) (HU.out _ _) (by omega)
          have hRg := rx_ge (tS := tS) (tB := tB) (ts := ts) k1 false T1 (AW.getW ts y 0)
          have hRl2 : (rx tS tB ts k1 false T1 (AW.getW ts y 0)).length ≤ 301000000 := by
            have : 1000200 * (k1 + 1) ≤ 1000200 * 300 := Nat.mul_le_mul_left _ (by omega)
            exact Nat.le_trans hRl (Nat.le_trans (Nat.add_le_add_left this 130) (by decide))
          clear hRl
          generalize rx tS tB ts k1 false T1 (AW.getW ts y 0) = R at *
          have hsR : (str R).size ≤ 301000000 := hRl2
          have HP1 := Lib.hid (fun (wx : World) (f : MM.Far [] w wx) => HP.out wx f (AW.getW ts y 1) (HU.out _ _))
          have HL1 := Lib.hid (fun (wx : World) (f : MM.Far [] w wx) => HL.out wx f (AW.getW ts y 1) (HU.out _ _))
          have hsg1 := HSG.out (AW.getW ts y 1) (HU.out _ _)
          have HU1 := Lib.hid (HU.out y 1)
          have HG0 := Lib.hid (fun (wx : World) (f : MM.Far [] w wx) => HG.out wx f y HIU.out 0)
          have HG1 := Lib.hid (fun (wx : World) (f : MM.Far [] w wx) => HG.out wx f y HIU.out 1)
          generalize AW.getW ts y 1 = r at *
          generalize AW.getE ts y 1 = e1 at *
          generalize AW.getE ts y 0 = e0 at *
          generalize AW.getW ts y 0 = y0 at *
          by_cases hp1 : prB ts r = true
          · rw [hp1] at HP1
            rw [if_pos hp1] at iE
            have HE := Lib.hid iE
            have HS1 := Lib.hid (str_two R [32])
            clear iE iC hp1
            go_wp2_with (first
              | (go_at_call 65; (with_reducible refine (HG0.out _ HIF.out).mono ?_); rintro e w' ⟨rfl, rfl⟩)
              | (go_at_call 65; (with_reducible refine (HG1.out _ HIF.out).mono ?_); rintro e w' ⟨rfl, rfl⟩)
              | (go_at_call 44; (with_reducible refine (HTX.out _ HIF.out).mono ?_); rintro e w3 ⟨rfl, hF3⟩; have HF3 := Lib.hid (HIF.out.trans hF3 (by simp)); clear hF3)
              | (go_at_call 63; (with_reducible refine (HP1.out _ HF3.out).mono ?_); rintro e w' ⟨rfl, rfl⟩))
            go_roundg k1
            case measure => omega
            case rel => exact ⟨R ++ [32], r, by rw [← HS1.out]; rfl, rfl, ⟨HF3.out, by rw [List.length_append, List.length_singleton]; omega, HU1.out, by omega, by omega, fun h => by rw [List.length_append, List.length_singleton] at *; omega, HE.out⟩⟩
          · rw [show prB ts r = false from by simpa using hp1] at HP1
            rw [if_neg hp1] at iE
            unfold tl_ at iE
            clear iC hp1
            by_cases hr2 : r = 2
            · subst hr2
              rw [if_pos rfl] at iE
              have HE : Hid (str R ++ (⟨#[41]⟩ : ByteArray) = str D) := Lib.hid (by rw [← iE, ← str_two]; rfl)
              clear iE
              go_wp2_with (first
                | (go_at_call 65; (with_reducible refine (HG0.out _ HIF.out).mono ?_); rintro e w' ⟨rfl, rfl⟩)
                | (go_at_call 65; (with_reducible refine (HG1.out _ HIF.out).mono ?_); rintro e w' ⟨rfl, rfl⟩)
                | (go_at_call 44; (with_reducible refine (HTX.out _ HIF.out).mono ?_); rintro e w3 ⟨rfl, hF3⟩; have HF3 := Lib.hid (HIF.out.trans hF3 (by simp)); clear hF3)
                | (go_at_call 63; (with_reducible refine (HP1.out _ HF3.out).mono ?_); rintro e w' ⟨rfl, rfl⟩))
              go_ret
              rw [HE.out]
              exact ⟨rfl, HF3.out⟩
            · rw [if_neg hr2] at iE
              have b2 : (r == 2) = false := by rw [beq_eq_false_iff_ne]; exact hr2
              have b3 : (r != 2) = true := by simp [bne, b2]
              generalize sg tS tB ts r = S at *
              have hsS : (str S).size ≤ 1000100 := hsg1
              have HE : Hid (str R ++ (⟨#[32, 46, 32]⟩ : ByteArray) ++ str S ++ (⟨#[41]⟩ : ByteArray) = str D) := Lib.hid (by rw [← iE, ← str_two, ← str_two, ← str_two]; rfl)
              clear iE
              go_wp2_with (first
                | (go_at_call 65; (with_reducible refine (HG0.out _ HIF.out).mono ?_); rintro e w' ⟨rfl, rfl⟩)
                | (go_at_call 65; (with_reducible refine (HG1.out _ HIF.out).mono ?_); rintro e w' ⟨rfl, rfl⟩)
                | (go_at_call 44; (with_reducible refine (HTX.out _ HIF.out).mono ?_); rintro e w3 ⟨rfl, hF3⟩; have HF3 := Lib.hid (HIF.out.trans hF3 (by simp)); clear hF3)
                | (go_at_call 63; (with_reducible refine (HP1.out _ HF3.out).mono ?_); rintro e w' ⟨rfl, rfl⟩)
                | (go_at_call 64; (with_reducible refine (HL1.out _ HF3.out).mono ?_); rintro e w4 ⟨rfl, hF4⟩; have HF4 := Lib.hid (HF3.out.trans hF4 (by simp)); clear hF4))
              go_ret
              rw [HE.out]
              exact ⟨rfl, HF4.out⟩
    · rw [show prB ts x = false from by simpa using hp] at HP0
      rw [if_neg hp] at hD
      have HL0 := Lib.hid (HL.out w (MM.Far.refl [] w) x HX.out)
      have hsg1 := HSG.out x HX.out
      generalize sg tS tB ts x = S at *
      have hsS : (str S).size ≤ 1000100 := hsg1
      have HE : Hid (str T ++ str S = str D) := Lib.hid (by rw [str_two, hD])
      clear hD hp hc
      go_enter Tryz.func44, Tryz.ntmps44
      go_wp2_with (first
        | (go_at_call 63; (with_reducible refine HP0.out.mono ?_); rintro e w' ⟨rfl, rfl⟩)
        | (go_at_call 64; (with_reducible refine HL0.out.mono ?_); rintro e w4 ⟨rfl, hF4⟩; have HF4 := Lib.hid hF4; clear hF4))
      go_ret
      rw [HE.out]
      exact ⟨rfl, HF4.out⟩
theorem text_any (hA : RW.Rr w0 base q n v ts hs) (hN : RNm w0 (.slice nA nl nc) tS tB) (g : Nat) : TxH w0 q nl nc nA tS tB ts g := by
  have : ∀ g k, k ≤ g → TxH w0 q nl nc nA tS tB ts k := by
    intro g
    induction g with
    | zero =>
      intro k hk w T x _ _ _ h1
      omega
    | succ g ih =>
      intro k hk
      rcases Nat.lt_or_ge g k with h1 | h1
      · obtain rfl : k = g + 1 := by omega
        exact text_step hA hN g ih
      · exact ih k h1
  exact this g g (Nat.le_refl _)
theorem cut117_run (s : ByteArray) (hs : 117 ≤ s.size) (W : World) : (Instr.slice 9 (.string s) none (some (.int .i64 117)) none).run Tryz.prog W = .ok (.string (s.extract 0 117)) W := by
  simp [Instr.slice, Instr.sliceBounds, Instr.sliceBound, asIntOf, run_underlying Tryz.underlying9]
  intro h
  omega
set_option maxHeartbeats 1000000 in
theorem rword_any (hA : RW.Rr w base q n v ts hs) (hN : RNm w (.slice nA nl nc) tS tB) (x : Int) (hx : WP.U x) :
    Calls Tryz.prog 21 #[AW.ptr q, .slice nA nl nc, .int .u64 x] w fun e w' => e = .returned (.string (str (cutX (wrt tS tB ts 122 false [] x)))) ∧ MM.Far [] w w' := by
  rw [← rx_cut]
  have HT := Lib.hid (text_any hA hN 243 w [] x (MM.Far.refl [] w) (by simp) hx (by omega) (by omega) (fun _ => by simp))
  have hl := rx_len (tS := tS) (tB := tB) (ts := ts) (fun y hy => sg_len hN.1 hA.ok y hy) (fun y j => getW_u hA.ok y j) 243 false [] x hx (by simp)
  rw [show str [] = (⟨#[]⟩ : ByteArray) from rfl] at HT
  have hl2 : (rx tS tB ts 243 false [] x).length ≤ 400000000 := Nat.le_trans hl (by omega)
  generalize rx tS tB ts 243 false [] x = R at *
  clear hl hA hN hx
  have hsR : (str R).size ≤ 400000000 := hl2
  have hsz : (str R).size = R.length := rfl
  by_cases h : R.length ≤ 120
  · have HE : Hid (cutL R = R) := Lib.hid (by unfold cutL; rw [if_pos h])
    rw [HE.out]
    go_enter Tryz.func21, Tryz.ntmps21
    go_wp2_with (first
      | (go_at_call 44; (with_reducible refine HT.out.mono ?_); rintro e w3 ⟨rfl, hF3⟩; have HF3 := Lib.hid hF3; clear hF3))
    go_ret
    exact ⟨rfl, HF3.out⟩
  · have HE : Hid ((str R).extract 0 117 ++ (⟨#[46, 46, 46]⟩ : ByteArray) = str (cutL R)) := Lib.hid (by
      have e1 : (str R).extract 0 117 = str (R.take 117) := by
        apply ByteArray.ext
        simp [str, ByteArray.data_extract]
      unfold cutL
      rw [if_neg h, e1, ← str_two]; rfl)
    have hsl := cut117_run (str R) (by omega)
    have hs3 : ((str R).extract 0 117).size ≤ 117 := by rw [ByteArray.size_extract]; omega
    rw [← HE.out]
    generalize (str R).extract 0 117 = Y at *
    go_enter Tryz.func21, Tryz.ntmps21
    go_wp2_with (first
      | (go_at_call 44; (with_reducible refine HT.out.mono ?_); rintro e w3 ⟨rfl, hF3⟩; have HF3 := Lib.hid hF3; clear hF3))
    go_ret
    exact ⟨rfl, HF3.out⟩
end
end SW
end Go.Proofs.YtbglcdjimipeeaaGreatDoor
