/-
  Contracts of layer 11's code: wrongAt, Check. Conditions: sizes, numbers are of their kinds, the program's tables.
-/
import Derived.Test.YthhibcfljekibaaDoorCodeC5
namespace Go.Proofs.YthhibcfljekibaaDoor
open Go.RowKit
set_option linter.unusedVariables false
namespace KW
open KP
theorem far_d {A B W V : World} (h : MM.Far [] A B) (k : MM.Far [] W V) (e : W = B ∨ W = B.drew) : MM.Far [] A V := by
  rcases e with rfl | rfl
  · exact h.trans k (by simp)
  · exact (h.trans ((MM.Far.refl [] B).drew) (by simp)).trans k (by simp)
theorem far7 {W V : World} (f : MM.Far [] W V) {b0 bx g k : Nat} {v0 v1 u0 u1 u2 u3 d0 : Value} (h : W.cell? ⟨b0, 0, none⟩ = some v0 ∧ W.cell? ⟨b0, 1, none⟩ = some v1 ∧ W.cell? ⟨bx, 0, none⟩ = some u0 ∧ W.cell? ⟨bx, 1, none⟩ = some u1 ∧ W.cell? ⟨bx, 2, none⟩ = some u2 ∧ W.cell? ⟨bx, 3, none⟩ = some u3 ∧ W.cell? ⟨g, k, none⟩ = some d0) (h0 : b0 < W.heap.size) (h1 : bx < W.heap.size) (h2 : g < W.heap.size) :
    V.cell? ⟨b0, 0, none⟩ = some v0 ∧ V.cell? ⟨b0, 1, none⟩ = some v1 ∧ V.cell? ⟨bx, 0, none⟩ = some u0 ∧ V.cell? ⟨bx, 1, none⟩ = some u1 ∧ V.cell? ⟨bx, 2, none⟩ = some u2 ∧ V.cell? ⟨bx, 3, none⟩ = some u3 ∧ V.cell? ⟨g, k, none⟩ = some d0 := by
  have c : ∀ b j, b < W.heap.size → V.cell? ⟨b, j, none⟩ = W.cell? ⟨b, j, none⟩ := fun b j hb => f.cell (p := ⟨b, j, none⟩) hb (by simp)
  rw [c b0 0 h0, c b0 1 h0, c bx 0 h1, c bx 1 h1, c bx 2 h1, c bx 3 h1, c g k h2]
  exact h
/-- What wrongAt answers. -/
def WrQ (R : Option Nat) (w : World) (e : Ending) (w' : World) : Prop := e = .returned (.tuple #[num ((R.getD 0 : Nat) : Int), .bool R.isSome]) ∧ MM.Far [] w w'
set_option maxHeartbeats 8000000 in
set_option maxRecDepth 20000 in
theorem wrong_any (n most : Int) (bk : Kb) (m : Nat) (hm : bk.l.length = m) (h9 : m < 1000000000) (hx : ∀ x ∈ bk.l, Wf x) (A : Option Addr) (c mb : Nat) (w : World) (hT : FT w) (hM : MapI w mb arity) (hI : Ir w [] A bk.l) :
    Calls Tryd.prog 15 #[.agg #[num n, .map (some mb)], .agg #[num bk.many, .slice A m c], num most] w (WrQ (wrongAt n bk most) w) := by
  obtain ⟨R, hR⟩ : ∃ R, wrongAt n bk most = R := ⟨_, rfl⟩
  rw [hR]
  unfold KP.wrongAt at hR
  obtain ⟨many, l⟩ := bk
  simp only at hR hm hx hI
  have HR := Lib.hid hR
  have HM := Lib.hid hm
  have HX := Lib.hid hx
  have FA := ((MM.Far.refl [] w).alloc (.cells #[num n, .map (some mb)] 50)).alloc (.cells #[num many, .slice A m c] 31)
  have HF1 := Lib.hid FA
  have HT1 := Lib.hid (hT.far FA)
  have HM1 := Lib.hid (hM.far FA (by simp))
  have HI1 := Lib.hid (hI.far FA (by simp))
  have HB1 := Lib.hid ((MM.Row.new w 50 [num n, .map (some mb)]).alloc (.cells #[num many, .slice A m c] 31))
  have hb2 := MM.Row.new (w.alloc (.cells #[num n, .map (some mb)] 50)) 31 [num many, .slice A m c]
  rw [World.size_alloc] at hb2
  have HB2 := Lib.hid hb2
  clear hR hT hM hx FA hb2 hm hI
  show Calls Tryd.prog 15 #[.agg #[num n, .map (some mb)], .agg #[num many, .slice A m c], num most] w _
  go_enter Tryd.func15, Tryd.ntmps15
  by_cases h1 : many < 0
  · obtain rfl : R = some 0 := by have := HR.out; rw [if_pos h1] at this; exact this.symm
    go_wp2_with (fail)
    go_ret2
    exact ⟨rfl, HF1.out⟩
  by_cases h2 : most < many
  · obtain rfl : R = some 0 := by have := HR.out; rw [if_neg h1, if_pos h2] at this; exact this.symm
    go_wp2_with (fail)
    go_ret2
    exact ⟨rfl, HF1.out⟩
  have hR2 := HR.out
  rw [if_neg h1, if_neg h2] at hR2
  have HD := Lib.hid (fun W (h : Ir W [] A l) => depth_any l m HM.out h9 many A c W h)
  have HDG : Hid (∀ d, depth l = some d → d.length = l.length) := Lib.hid (fun d h => (depth_good h).1)
  generalize depth l = D at *
  clear HR
  cases D with
  | none =>
    obtain rfl : R = some 0 := hR2.symm
    go_wp2_with (first
      | (go_at_call 11
         refine (HD.out _ HI1.out).mono ?_
         rintro e w2 ⟨v, rfl, hF2, hv, -⟩
         obtain rfl := hv rfl))
    go_ret2
    exact ⟨rfl, HF1.out.trans hF2 (by simp)⟩
  | some d =>
    simp only at hR2
    have HDL := Lib.hid (HDG.out d rfl)
    have HR2 := Lib.hid hR2
    clear hR2 HDG
    go_upto_region 4 with (first
      | (go_at_call 11
         refine (HD.out _ HI1.out).mono ?_
         rintro e w2 ⟨v, rfl, hF2, -, hv⟩
         obtain ⟨g, rfl, hr2, hg2⟩ := hv d rfl
         have HR2' := Lib.hid hr2
         have HB1' := Lib.hid (HB1.out.far hF2 (by simp))
         have HB2' := Lib.hid (HB2.out.far hF2 (by simp))
         have HT2 := Lib.hid (HT1.out.far hF2)
         have HM2 := Lib.hid (HM1.out.far hF2 (by simp))
         have HI2 := Lib.hid (HI1.out.far hF2 (by simp))
         have HF2 := Lib.hid (HF1.out.trans hF2 (by simp))
         have x1 : w2.cell? ⟨w.heap.size + 1, 1, none⟩ = some (.slice A m c) := HB2'.out.at (i := 1) rfl
         clear hr2 hF2 hv hg2))
    obtain ⟨dm, hdm⟩ : ∃ dm, d.length = dm := ⟨_, rfl⟩
    have HDM := Lib.hid hdm
    have hdmm : dm = m := by rw [← hdm, HDL.out, HM.out]
    rw [hdm]
    subst hdmm
    clear hdm
    have HCo := Lib.hid (fun W (h : MM.Row W g 3 (ints d)) => contains_any d dm HDM.out h9 (-1) g dm W h)
    cases hc : d.contains (-1) with
    | true =>
      rw [hc] at HCo
      obtain rfl : R = some 0 := by have := HR2.out; rw [if_pos hc] at this; exact this.symm
      clear hc
      go_wp2_with (first
        | (go_at_call 20
           refine (HCo.out _ HR2'.out).mono ?_
           rintro e w3 ⟨rfl, rfl⟩))
      go_ret2
      exact ⟨rfl, HF2.out⟩
    | false =>
      rw [hc] at HCo
      have HR3 : Hid (firstBad n l d 0 = R) := Lib.hid (by have := HR2.out; rw [hc] at this; exact this)
      clear hc HR2
      go_wp2_with (first
        | (go_at_call 20
           refine (HCo.out _ HR2'.out).mono ?_
           rintro e w3 ⟨rfl, rfl⟩))
      have F0 : Hid (MM.Far [] w2 w2) := Lib.hid (MM.Far.refl _ _)
      have HR0 : Hid (firstBad n (l.drop 0) (d.drop 0) 0 = R) := HR3
      clear HCo HR3 x1
      go_loopw [35] (fun s35 wr => ∃ k : Nat, k ≤ dm ∧ s35 = num k ∧ Hid (MM.Far [] w2 wr) ∧ Hid (firstBad n (l.drop k) (d.drop k) k = R)) (fun s35 _ => dm - (intOf s35).toNat)
      case atStart => exact ⟨0, by omega, rfl, F0, HR0⟩
      case round =>
        obtain ⟨k, hk, rfl, HFr, HE⟩ := hrel
        by_cases hlt : k < dm
        · have hkl : k < l.length := by rw [HM.out]; exact hlt
          have hkd : k < d.length := by rw [HDM.out]; exact hlt
          obtain ⟨b, o, rfl, -, hb, c0, c1, c2, c3⟩ := (HI2.out.far HFr.out (by simp)).at hkl
          have hE := HE.out
          rw [List.drop_eq_getElem_cons hkl, List.drop_eq_getElem_cons hkd] at hE
          have hwf := HX.out _ (List.getElem_mem hkl)
          have hdk : wr.cell? ⟨g, k, none⟩ = some (num d[k]) := (HR2'.out.far HFr.out (by simp)).at (by simp [ints, hkd])
          generalize l[k] = x at *
          generalize d[k] = q at *
          unfold KP.firstBad at hE
          have HB := HB1'.out.far HFr.out (by simp)
          have y0 : wr.cell? ⟨w.heap.size, 0, none⟩ = some (num n) := HB.at (i := 0) rfl
          have y1 : wr.cell? ⟨w.heap.size, 1, none⟩ = some (.map (some mb)) := HB.at (i := 1) rfl
          have hy := HB.lt
          have hgr := (HR2'.out.far HFr.out (by simp)).lt
          have HMy := Lib.hid (fun W (h1 : FT W) (h2 : MapI W mb arity) => may_any n q x hwf mb W h1 h2)
          obtain ⟨op, xa, xb, xw⟩ := x
          simp only at c0 c1 c2 c3
          generalize KP.may n ⟨op, xa, xb, xw⟩ q = ok at *
          have HE2 := Lib.hid hE
          have FW := (MM.Far.refl [] wr).alloc (.cells #[.int .u8 op, .int .i64 xa, .int .i64 xb, .int .u64 xw] 38)
          have HTW := Lib.hid (HT2.out.far (HFr.out.trans FW (by simp)))
          have HMW := Lib.hid (HM2.out.far (HFr.out.trans FW (by simp)) (by simp))
          have HFW := Lib.hid (HFr.out.trans FW (by simp))
          have HBX := Lib.hid (MM.Row.new wr 38 [.int .u8 op, .int .i64 xa, .int .i64 xb, .int .u64 xw])
          clear hE FW HB hkl hkd hwf
          go_upto_region 9 with (fail)
          obtain ⟨bx, hbx⟩ : ∃ bx, wr.heap.size = bx := ⟨_, rfl⟩
          have hsx : (wr.alloc (.cells #[.int .u8 op, .int .i64 xa, .int .i64 xb, .int .u64 xw] 38)).heap.size = bx + 1 := by rw [World.size_alloc, hbx]
          rw [hbx] at HBX
          have hyy0 : (wr.alloc (.cells #[.int .u8 op, .int .i64 xa, .int .i64 xb, .int .u64 xw] 38)).cell? ⟨w.heap.size, 0, none⟩ = some (num n) := ((MM.Far.refl [] wr).alloc _).cell (p := ⟨w.heap.size, 0, none⟩) hy (by simp) |>.trans y0
          have hyy1 : (wr.alloc (.cells #[.int .u8 op, .int .i64 xa, .int .i64 xb, .int .u64 xw] 38)).cell? ⟨w.heap.size, 1, none⟩ = some (.map (some mb)) := ((MM.Far.refl [] wr).alloc _).cell (p := ⟨w.heap.size, 1, none⟩) hy (by simp) |>.trans y1
          have hdd : (wr.alloc (.cells #[.int .u8 op, .int .i64 xa, .int .i64 xb, .int .u64 xw] 38)).cell? ⟨g, k, none⟩ = some (num q) := ((MM.Far.refl [] wr).alloc _).cell (p := ⟨g, k, none⟩) hgr (by simp) |>.trans hdk
          rw [hbx]
          generalize wr.alloc (.cells #[.int .u8 op, .int .i64 xa, .int .i64 xb, .int .u64 xw] 38) = wx at *
          have xx0 : wx.cell? ⟨bx, 0, none⟩ = some (.int .u8 op) := HBX.out.at (i := 0) rfl
          have xx1 : wx.cell? ⟨bx, 1, none⟩ = some (.int .i64 xa) := HBX.out.at (i := 1) rfl
          have xx2 : wx.cell? ⟨bx, 2, none⟩ = some (.int .i64 xb) := HBX.out.at (i := 2) rfl
          have xx3 : wx.cell? ⟨bx, 3, none⟩ = some (.int .u64 xw) := HBX.out.at (i := 3) rfl
          have hlt1 : w.heap.size < bx := by omega
          have hlt2 : g < bx := by omega
          clear y0 y1 hdk c0 c1 c2 c3 hbx hb HBX
          cases ok with
          | true =>
            have HE3 : Hid (firstBad n (l.drop (k + 1)) (d.drop (k + 1)) (k + 1) = R) := Lib.hid (by have := HE2.out; rw [if_pos rfl] at this; exact this)
            clear HE2
            go_region_held3 (fun w' => w'.cell? ⟨w.heap.size, 0, none⟩ = some (num n) ∧ w'.cell? ⟨w.heap.size, 1, none⟩ = some (.map (some mb)) ∧ w'.cell? ⟨bx, 0, none⟩ = some (.int .u8 op) ∧ w'.cell? ⟨bx, 1, none⟩ = some (.int .i64 xa) ∧ w'.cell? ⟨bx, 2, none⟩ = some (.int .i64 xb) ∧ w'.cell? ⟨bx, 3, none⟩ = some (.int .u64 xw) ∧ w'.cell? ⟨g, k, none⟩ = some (num q)) (first | (with_reducible assumption) | go_keep) (first
              | (go_at_call 21
                 (with_reducible refine (HMy.out _ (by first | exact HTW.out | exact HTW.out.far ((MM.Far.refl [] _).drew)) (by first | exact HMW.out | exact HMW.out.far ((MM.Far.refl [] _).drew) (by simp))).mono ?_)
                 rintro e w5 ⟨rfl, hF5⟩
                 have hS5 : w5.cell? ⟨w.heap.size, 0, none⟩ = some (num n) ∧ w5.cell? ⟨w.heap.size, 1, none⟩ = some (.map (some mb)) ∧ w5.cell? ⟨bx, 0, none⟩ = some (.int .u8 op) ∧ w5.cell? ⟨bx, 1, none⟩ = some (.int .i64 xa) ∧ w5.cell? ⟨bx, 2, none⟩ = some (.int .i64 xb) ∧ w5.cell? ⟨bx, 3, none⟩ = some (.int .u64 xw) ∧ w5.cell? ⟨g, k, none⟩ = some (num q) := far7 (by first | exact hF5 | exact hF5) (by first | assumption | exact hHeld) (by show _ < wx.heap.size; omega) (by show _ < wx.heap.size; omega) (by show _ < wx.heap.size; omega)
                 have HF5 := Lib.hid (far_d HFW.out hF5 (by first | exact .inl rfl | exact .inr rfl))
                 clear hF5))
            all_goals
              go_wp2_with (fail)
              go_roundw
              case rel => exact ⟨k + 1, by omega, by go_num, HF5, HE3⟩
              case measure => simp [intOf]; omega
          | false =>
            obtain rfl : R = some k := by have := HE2.out; rw [if_neg (by simp)] at this; exact this.symm
            clear HE2
            go_region_held3 (fun w' => w'.cell? ⟨w.heap.size, 0, none⟩ = some (num n) ∧ w'.cell? ⟨w.heap.size, 1, none⟩ = some (.map (some mb)) ∧ w'.cell? ⟨bx, 0, none⟩ = some (.int .u8 op) ∧ w'.cell? ⟨bx, 1, none⟩ = some (.int .i64 xa) ∧ w'.cell? ⟨bx, 2, none⟩ = some (.int .i64 xb) ∧ w'.cell? ⟨bx, 3, none⟩ = some (.int .u64 xw) ∧ w'.cell? ⟨g, k, none⟩ = some (num q)) (first | (with_reducible assumption) | go_keep) (first
              | (go_at_call 21
                 (with_reducible refine (HMy.out _ (by first | exact HTW.out | exact HTW.out.far ((MM.Far.refl [] _).drew)) (by first | exact HMW.out | exact HMW.out.far ((MM.Far.refl [] _).drew) (by simp))).mono ?_)
                 rintro e w5 ⟨rfl, hF5⟩
                 have hS5 : w5.cell? ⟨w.heap.size, 0, none⟩ = some (num n) ∧ w5.cell? ⟨w.heap.size, 1, none⟩ = some (.map (some mb)) ∧ w5.cell? ⟨bx, 0, none⟩ = some (.int .u8 op) ∧ w5.cell? ⟨bx, 1, none⟩ = some (.int .i64 xa) ∧ w5.cell? ⟨bx, 2, none⟩ = some (.int .i64 xb) ∧ w5.cell? ⟨bx, 3, none⟩ = some (.int .u64 xw) ∧ w5.cell? ⟨g, k, none⟩ = some (num q) := far7 (by first | exact hF5 | exact hF5) (by first | assumption | exact hHeld) (by show _ < wx.heap.size; omega) (by show _ < wx.heap.size; omega) (by show _ < wx.heap.size; omega)
                 have HF5 := Lib.hid (far_d HFW.out hF5 (by first | exact .inl rfl | exact .inr rfl))
                 clear hF5))
            all_goals
              go_wp2_with (fail)
              go_ret2
              exact ⟨rfl, HF2.out.trans HF5.out (by simp)⟩
        · obtain rfl : k = dm := by omega
          obtain rfl : R = none := by
            have := HE.out
            rw [List.drop_eq_nil_of_le (by rw [HM.out]; omega)] at this
            rw [← this]; rfl
          go_wp2_with (fail)
          go_ret2
          exact ⟨rfl, HF2.out.trans HFr.out (by simp)⟩
end KW
end Go.Proofs.YthhibcfljekibaaDoor
