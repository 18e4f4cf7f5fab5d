/-
  Contract of layer 8's code: expand, the loop over the parts. Conditions: there are no more than 100000 forms.
-/
import Derived.Test.YtaghlpolljaedaaGreatExpM
import Derived.Deep.LoopGhost
import Derived.Deep.RegionLaw
import Derived.Deep.CutRange
namespace Go.Proofs.YtaghlpolljaedaaGreat
open Go.RowKit
namespace EW
open LX SX RW6 EX
open RX (Nd)
open RM6 (Kin)
theorem plV_inj {b b' : Bool} {f f' : Fm} {p p' t t' i i' : Value} (h : plV b f p t i = plV b' f' p' t' i') : b = b' ∧ f.kind = f'.kind ∧ f.at_ = f'.at_ ∧ f.n = f'.n ∧ f.s = f'.s ∧ p = p' ∧ t = t' ∧ i = i' := by
  simp only [plV, num] at h
  injection h with h
  injection h with h
  simpa using h
theorem pc_one (x : Pc) {A A2 A3 : Option Addr} {n c n2 c2 n3 c3 : Nat} (h1 : x.pv = .slice A n c) (h2 : x.lv = .slice A2 n2 c2) (h3 : x.av = .slice A3 n3 c3) : ∀ u ∈ pcL x, u.oneCell' = true := by
  intro u hu
  simp only [pcL, h1, h2, h3, List.mem_cons, List.not_mem_nil, or_false] at hu
  rcases hu with rfl | rfl | rfl | rfl | rfl | rfl | rfl | rfl | rfl | rfl | rfl <;> rfl
/-- Behind the append of a plan. -/
def Cut2 (w0 wA w : World) (Z : List Nat) (q mb bx : Nat) (dv fv tv : Value) (rs : List (Fm × Value × Value)) (tops : List Nat) (n : Nat) (os : List Pc) (wx : World) : Prop :=
  ∃ Z2 A c, MM.Far Z wA wx ∧ Zto wA wx Z Z2 ∧ Mx w0 wx Z2 q mb dv fv tv (.slice A n c) (.slice A n c) rs tops os [] ∧ wx.cell? ⟨bx, 0, none⟩ = some (.pointer (some ⟨q, 0, none⟩)) ∧ w.heap.size ≤ wx.heap.size
theorem res_bad {ns : List Nd} {k : Nat} {a : Int} {x : Pl} (h : res ns k (.bad a) = some x) : x = .bad a := by
  unfold res at h
  injection h with h
  exact h.symm
theorem res_mk {ns : List Nd} {k : Nat} {f : Fm} {ps : List Pt} {x : Pl} (h : res ns k (.mk f ps) = some x) : x = .mk f ps := by
  unfold res at h
  injection h with h
  exact h.symm
theorem res_ins {ns : List Nd} {k : Nat} {p : Pt} {x : Pl} (h : res ns k (.ins p) = some x) : ∃ j, k = j + 1 ∧ res ns j (ev ns p) = some x := by
  cases k with
  | zero => unfold res at h; cases h
  | succ j => exact ⟨j, rfl, by unfold res at h; exact h⟩
section
variable {w0 w : World} {Z : List Nat} {q mb : Nat} {DA : Option Addr} {n c : Nat} {ns : List Nd} {fv tv ov : Value} {rs : List (Fm × Value × Value)} {tops : List Nat}
set_option maxHeartbeats 4000000 in
set_option maxRecDepth 20000 in
theorem expand_any {B B0 i m : Nat} {X : Except Int (List Fm × List Nat)} (hB : B ≤ 100000) (L : Lie w0 DA n ns) (h : Mx w0 w Z q mb (.slice DA n c) fv tv ov ov rs tops [] []) (hi : i < n)
    (hgo : EX.go ns m ⟨rs.map (·.1), tops, [], some (.top i)⟩ = some X) (hm : B0 + m ≤ B) (hF : Few B0 (rs.map (·.1)) tops []) :
    Calls Tryz.prog 18 #[ptr q, num i] w (XQ w0 w Z q mb (.slice DA n c) B X) := by
  obtain ⟨wA, hwA⟩ : ∃ wA, (w.alloc (.cells #[ptr q] 44)).alloc (.cells #[num i] 3) = wA := ⟨_, rfl⟩
  have FA : MM.Far [] w wA := by rw [← hwA]; exact ((MM.Far.refl [] w).alloc _).alloc _
  have hz := h.z
  have B1 : Bx wA Z w.heap.size 44 (ptr q) := by rw [← hwA]; exact (bx_new 44 (ptr q) rfl hz).alloc _
  have B2 : Bx wA Z (w.heap.size + 1) 3 (num i) := by rw [← hwA]; exact bx_new 3 (num i) (sz_alloc w _) (z_alloc hz)
  have H0 : Hid (OutI w0 wA Z q mb (.slice DA n c) ns B X m (.func (.func 27) #[] #[ptr w.heap.size, ptr (w.heap.size + 1)]) wA) :=
    Lib.hid ⟨Z, fv, tv, ov, rs, tops, [], some (.top i), B0, MM.Far.refl _ _, Zto.refl _ _ _, h.to FA, .top B1 B2, hgo, hm, hF, fun o ho => absurd ho (by simp), ⟨by have := L.len; show i < ns.length; omega, trivial⟩, fun e => nomatch e⟩
  have HFA := Lib.hid FA
  have HB1 := Lib.hid B1
  have HB := Lib.hid hB
  have HL := Lib.hid L
  clear h hF hgo hm hB L B1 B2 FA hz
  subst hwA
  unfold num at *
  unfold ptr at *
  go_enter Tryz.func18, Tryz.ntmps18
  go_wp2
  generalize (w.alloc (.cells #[.pointer (some ⟨q, 0, none⟩)] 44)).alloc (.cells #[.int .i64 i] 3) = wA at *
  go_loopg [6] m (fun k v wr => OutI w0 wA Z q mb (.slice DA n c) ns B X k v wr)
  case atStart => exact H0.out
  case round =>
    obtain ⟨Z1, fv, tv, ov, rs, tops, os, nx, B0, hF1, hz1, hM, hN, hgo, hm, hFew, hG, hGN, hnn⟩ := hrel
    have HM := Lib.hid hM
    have HF1 := Lib.hid hF1
    have HZ1 := Lib.hid hz1
    have HFew := Lib.hid hFew
    have HGO := Lib.hid hgo
    have HMm := Lib.hid hm
    have HG := Lib.hid hG
    have hne0 : ∀ W, (binOp .neq 75 .nilFunc .nilFunc).run Tryz.prog W = .ok (.bool false) W := fun W => by kernel_rfl
    cases nx with
    | none =>
      obtain rfl : os = [] := hnn rfl
      have hN2 : u6 = .nilFunc := hN
      subst hN2
      clear hF1 hz1 hM hgo hm hFew hG hGN hnn H0
      go_wp2
      refine bodyPost_ret (v := .tuple #[.int .i64 0, .int .i64 0]) (by simp [results, Tryz.results18, go_sem]) rfl ?_
      have hg := HGO.out
      rw [go_none] at hg
      injection hg with hg
      subst hg
      exact ⟨rfl, (HFA.out.mono (fun b hb _ => by cases hb)).trans HF1.out (fun b hb _ => hb), Z1, fv, tv, ov, rs, [], ⟨HZ1.out.sub, fun b hb => (HZ1.out.new b hb).imp id (fun h => Nat.le_trans HFA.out.size h)⟩, HM.out, rfl, HFew.out.mono (by have := HMm.out; omega), rfl⟩
    | some p =>
      obtain ⟨f0, cs, rfl, hcf, hC⟩ := part_any (HL.out.rdy hM.env) hN hGN.1 hGN.2
      obtain ⟨k, rfl, plF, hres⟩ : ∃ k, gk = k + 1 ∧ ∃ plF, res ns k (ev ns p) = some plF := by
        cases gk with
        | zero => rw [go_zero] at hgo; cases hgo
        | succ k =>
          rw [go_succ] at hgo
          refine ⟨k, rfl, ?_⟩
          cases hr : res ns k (ev ns p) with
          | none => rw [hr] at hgo; cases hgo
          | some x => exact ⟨x, rfl⟩
      have hg2 := hgo
      rw [go_succ, hres] at hg2
      have HG2 := Lib.hid hg2
      have hne : ∀ W, (binOp .neq 75 (.func (.func f0) #[] cs) .nilFunc).run Tryz.prog W = .ok (.bool true) W := fun W => by kernel_rfl
      have HRES := Lib.hid hres
      have HC := Lib.hid hC
      have HTH := Lib.hid (ev_there HL.out.ok p hGN.1)
      have HWE := Lib.hid (ev_wee HL.out.few p hGN.2)
      obtain ⟨wo, rfl⟩ : ∃ wo, wo = wr := ⟨_, rfl⟩
      clear hF1 hz1 hM hgo hm hFew hG hGN hnn hN hg2 hres hC H0 HGO
      go_wp2_with (fail)
      refine HC.out.mono ?_
      rintro e w1 ⟨v, rfl, hI, hF⟩
      obtain ⟨bad, fm, A, mm, cc, A2, m2, c2, ins, rfl, hins⟩ := hI.asPl
      have HI := Lib.hid hI
      have HF := Lib.hid hF
      clear hI hF HC
      unfold plV num
      go_wp2
      clear hne hcf hins
      have HRow : Hid (MM.Row (w1.alloc (.cells #[.bool bad, .int .u8 fm.kind, .int .i64 fm.at_, .int .i64 fm.n, .int .i64 0, .string fm.s, .slice A mm cc, .int .u64 0, .slice none 0 0, .slice A2 m2 c2, ins] 78)) w1.heap.size 78 (plL bad fm (.slice A mm cc) (.slice A2 m2 c2) ins)) := Lib.hid (MM.Row.new w1 78 [.bool bad, .int .u8 fm.kind, .int .i64 fm.at_, .int .i64 fm.n, .int .i64 0, .string fm.s, .slice A mm cc, .int .u64 0, .slice none 0 0, .slice A2 m2 c2, ins])
      have FB := (MM.Far.refl [] w1).alloc (.cells #[.bool bad, .int .u8 fm.kind, .int .i64 fm.at_, .int .i64 fm.n, .int .i64 0, .string fm.s, .slice A mm cc, .int .u64 0, .slice none 0 0, .slice A2 m2 c2, ins] 78)
      have HIB := Lib.hid ((HI.out.more (Z' := w1.heap.size :: Z1) (fun x hx => (List.mem_cons.1 hx).elim (fun e => .inr (by omega)) .inl)).far FB (by simp))
      have HMB := Lib.hid ((HM.out.to HF.out).wide FB (Nat.le_refl _) (by rw [sz_alloc]; omega))
      have HBZ : Hid (w1.heap.size ∉ Z1) := Lib.hid (fun hm => by have := HM.out.z _ hm; have := HF.out.size; omega)
      have HFB := Lib.hid (HF.out.trans FB (by simp))
      clear FB HI
      generalize w1.alloc (.cells #[.bool bad, .int .u8 fm.kind, .int .i64 fm.at_, .int .i64 fm.n, .int .i64 0, .string fm.s, .slice A mm cc, .int .u64 0, .slice none 0 0, .slice A2 m2 c2, ins] 78) = wB at *
      obtain ⟨b, hb⟩ : ∃ b, w1.heap.size = b := ⟨_, rfl⟩
      rw [hb] at HRow HIB HMB HBZ ⊢
      have HBge : Hid (wo.heap.size ≤ b) := Lib.hid (by rw [← hb]; exact HF.out.size)
      clear hb HF
      go_loopg [] k (fun j wz => InI w0 wB Z1 q mb b (.slice DA n c) fv tv ov rs tops os ns plF j wz)
      case atStart => exact ⟨ev ns p, bad, fm, _, _, ins, HRow.out, HIB.out, HRES.out, HTH.out, HWE.out, MM.Far.refl _ _, HMB.out⟩
      case round =>
        clear HRow HIB HRES HTH HWE HMB
        obtain ⟨pl, bad, f, pv, parts, ins, hRow, hIs, hres, hth, hwe, hFb, hMz⟩ := hrel
        obtain ⟨wz, rfl⟩ : ∃ wz, wz = wr := ⟨_, rfl⟩
        have n0 := hRow.at (i := 0) rfl
        have n1 := hRow.at (i := 1) rfl
        have n2 := hRow.at (i := 2) rfl
        have n3 := hRow.at (i := 3) rfl
        have n4 := hRow.at (i := 4) rfl
        have n5 := hRow.at (i := 5) rfl
        have n6 := hRow.at (i := 6) rfl
        have n7 := hRow.at (i := 7) rfl
        have n8 := hRow.at (i := 8) rfl
        have n9 := hRow.at (i := 9) rfl
        have n10 := hRow.at (i := 10) rfl
        have HMz := Lib.hid hMz
        have HFb := Lib.hid hFb
        have HRow := Lib.hid hRow
        have HIs := Lib.hid hIs
        have HTh := Lib.hid hth
        have HWe := Lib.hid hwe
        have HRes := Lib.hid hres
        clear hMz hFb hRow hIs hth hwe hres
        cases pl with
        | bad a0 =>
          obtain ⟨rfl, -, e3, -, -, -, -, rfl⟩ := plV_inj (show plV bad f pv parts ins = plV true (frm 0 a0 0) (.slice none 0 0) (.slice none 0 0) .nilFunc from HIs.out)
          obtain rfl := res_bad HRes.out
          have e3 : f.at_ = a0 := e3
          rw [e3] at n2
          unfold num at n2
          go_wp2
          refine bodyPost_ret (v := .tuple #[.int .i64 a0, .int .i64 80]) (by simp [results, Tryz.results18, go_sem]) rfl ?_
          have hg : some (Except.error a0) = some X := HG2.out
          injection hg with hg
          subst hg
          refine ⟨rfl, ?_⟩
          have h1 := (HFA.out.mono (S' := Z) (fun b hb _ => by cases hb)).trans HF1.out (fun b hb _ => hb)
          refine (h1.trans HFB.out (by simp)).trans HFb.out (fun x hx hl => ?_)
          have : x = b := by simpa using hx
          have h2 := HBge.out
          have h3 := h1.size
          omega
        | mk fm2 ps =>
          obtain ⟨pv2, parts2, vs, hv, hS1, hS2, hIss⟩ := HIs.out
          obtain ⟨rfl, e1, e2, e3, e4, rfl, rfl, rfl⟩ := plV_inj hv
          obtain rfl := res_mk HRes.out
          rw [e1] at n1
          rw [e2] at n2
          rw [e3] at n3
          rw [e4] at n5
          obtain ⟨A5, d5, rfl, -⟩ := hS1.form
          obtain ⟨A6, d6, rfl, -⟩ := hS2.form
          obtain ⟨np, hnp⟩ : ∃ np, (strs fm2.p).length = np := ⟨_, rfl⟩
          obtain ⟨na, hna⟩ : ∃ na, vs.length = na := ⟨_, rfl⟩
          rw [hnp] at n6 hS1
          rw [hna] at n9 hS2
          obtain ⟨oA, oc, rfl⟩ := own_form w0 HMz.out.op
          have HGP : Hid (Good ns ⟨{ fm2 with l := [] }, ps⟩) := Lib.hid (fun p hp => ⟨HTh.out p hp, HWe.out p hp⟩)
          have HP : Hid (Sl wz (b :: Z1) (.slice A5 np d5) (strs fm2.p) ∧ ∃ vs, Sl wz (b :: Z1) (.slice A6 na d6) vs ∧ Iss wz (b :: Z1) q vs ps) := Lib.hid ⟨hS1, vs, hS2, hIss⟩
          have hbx1 : w.heap.size ∉ Z1 := fun hm => by
            rcases HZ1.out.new _ hm with h1 | h1
            · exact HB1.out.out h1
            · have := HB1.out.lt; omega
          have hbxo : w.heap.size < wo.heap.size := Nat.lt_of_lt_of_le HB1.out.lt HF1.out.size
          have x0o : wo.cell? ⟨w.heap.size, 0, none⟩ = some (.pointer (some ⟨q, 0, none⟩)) := (HF1.out.cell (p := ⟨w.heap.size, 0, none⟩) HB1.out.lt HB1.out.out).trans HB1.out.at
          have x0b := far_cell HFB.out x0o
          have hneb : w.heap.size ≠ b := by have := HBge.out; omega
          have x0 := (HFb.out.cell (p := ⟨w.heap.size, 0, none⟩) (MR.cell_lt x0b) (by simpa using hneb)).trans x0b
          have x0a := far_cell ((MM.Far.refl [] wz).alloc (.cells #[.bool false, .int .u8 fm2.kind, .int .i64 fm2.at_, .int .i64 fm2.n, .int .i64 0, .string fm2.s, .slice A5 np d5, .int .u64 0, .slice none 0 0, .slice A6 na d6, .nilFunc] 78)) x0
          have x4 := HMz.out.head.at (i := 4) rfl
          have x4a := far_cell ((MM.Far.refl [] wz).alloc (.cells #[.bool false, .int .u8 fm2.kind, .int .i64 fm2.at_, .int .i64 fm2.n, .int .i64 0, .string fm2.s, .slice A5 np d5, .int .u64 0, .slice none 0 0, .slice A6 na d6, .nilFunc] 78)) x4
          have f4 := HMz.out.head.frozen 4
          have hos : os.length ≤ 100000 := by have h1 := HFew.out.sum; have h2 := HMm.out; have h3 := HB.out; simp only [List.length_map] at h1; omega
          have hbW := HMz.out.far.size
          have hneq : ¬ w.heap.size = q := fun e => hbx1 (e ▸ HM.out.zq)
          unfold num at n2 n3 n4
          clear hv hS1 hS2 hIss hnp hna x0o x0b HIs HTh HWe HRes HRow
          go_upto_region 8 with fail
          go_cut [] from 9 to 35 (fun wx => Cut2 w0 wA wo Z q mb w.heap.size (.slice DA n c) fv tv rs tops (os.length + 1) ((⟨⟨{ fm2 with l := [] }, ps⟩, .slice A5 np d5, .slice none 0 0, .slice A6 na d6⟩ : Pc) :: os) wx)
          case first =>
            go_region_law (
              refine MO.step_append ?_ (.tmp 28) (.tmp 30) 49 ?_ w0.heap.size 78 _ 11 144 plans_slice plan_info rfl (by omega) (.slice oA os.length oc) os.length (opC os.reverse) ?_ ?_ (some ⟨wz.heap.size, 0, none⟩) 1 1 (pcL ⟨⟨{ fm2 with l := [] }, ps⟩, .slice A5 np d5, .slice none 0 0, .slice A6 na d6⟩) ?_ rfl (fun h => by cases h) [] ?_ ?_ ?_ ?_ ?_ ?_
              · rfl
              · rfl
              · rfl
              · exact HMz.out.op.alloc _
              · rfl
              · exact (MM.Src.row (MM.Row.new wz 78 (pcL ⟨⟨{ fm2 with l := [] }, ps⟩, .slice A5 np d5, .slice none 0 0, .slice A6 na d6⟩)) (by simp) _ (fun j u hu => hu))
              · exact pc_one ⟨⟨{ fm2 with l := [] }, ps⟩, .slice A5 np d5, .slice none 0 0, .slice A6 na d6⟩ rfl rfl rfl
              · simp only [maxLen]; omega
              · omega
              · simp; omega
              intro v2 w2 hv2 hg2 hat2
              obtain ⟨A2, c2x, rfl⟩ := own_form w0 hv2
              have hat3 : (Value.slice A2 (os.length + 1) c2x).ownBlock = (Value.slice oA os.length oc).ownBlock ∨ ∃ b, (Value.slice A2 (os.length + 1) c2x).ownBlock = some b ∧ wz.heap.size ≤ b := hat2.imp id (fun e => ⟨_, e, ((MM.Far.refl [] wz).alloc _).drew.size⟩)
              have F2 : MM.Far (Value.slice oA os.length oc).ownBlock.toList wz w2 := RC6.far_app hg2
              have HH2 : Hid (MM.Row w2 q 51 _) := Lib.hid (HMz.out.head.far F2 (fun hm => MM.own_row_ne HMz.out.op HMz.out.head (by decide) (by simpa using hm)))
              have d4W := HH2.out.at (i := 4) rfl
              have e4W := HH2.out.frozen 4
              have x2 := (F2.cell (p := ⟨w.heap.size, 0, none⟩) (MR.cell_lt x0) (fun hm => hbx1 (HM.out.zo _ (by simpa using hm)))).trans x0
              have HN := Lib.hid (HMz.out.push (⟨⟨{ fm2 with l := [] }, ps⟩, .slice A5 np d5, .slice none 0 0, .slice A6 na d6⟩ : Pc) rfl rfl HP.out hv2 F2 hat3)
              have HA2 := Lib.hid (ztoOf (w1 := w2) HMz.out.zo hat3)
              have HF2 := Lib.hid F2
              clear hg2 hv2 hat2 hat3 F2)
            all_goals
              go_wp2_with fail
              go_meet
              have g1 : MM.Far Z1 wo w2 := ((((MM.Far.refl Z1 wo).trans HFB.out (by simp)).trans HFb.out (fun x hx hl => by
                have e : x = b := by simpa using hx
                have := HBge.out; omega)).trans HF2.out (fun x hx hl => by
                rcases List.mem_cons.1 (HMz.out.zo x (by simpa using hx)) with e | h1
                · have := HBge.out; omega
                · exact h1))
              refine ⟨_, A2, c2x, far_sub HF1.out ⟨HZ1.out.sub, HZ1.out.new⟩ (g1.trans (cell_far w2 q 4 (.slice A2 (os.length + 1) c2x)) (fun x hx _ => by simp at hx; subst hx; exact HM.out.zq)) (fun x hx _ => hx), ⟨fun x hx => HA2.out.sub x (List.mem_cons_of_mem _ (HZ1.out.sub x hx)), fun x hx => ?_⟩, HN.out, ?_, ?_⟩
              · have hA := HF1.out.size
                have hB := HBge.out
                rcases HA2.out.new x hx with h1 | h1
                · rcases List.mem_cons.1 h1 with rfl | h1
                  · exact .inr (by omega)
                  · exact HZ1.out.new x h1
                · have := HFB.out.size
                  have := HFb.out.size
                  exact .inr (by omega)
              · exact ((cell_far w2 q 4 (.slice A2 (os.length + 1) c2x)).cell (p := ⟨w.heap.size, 0, none⟩) (MR.cell_lt x2) (by simpa using hneq)).trans x2
              · exact Nat.le_trans g1.size (cell_far w2 q 4 (.slice A2 (os.length + 1) c2x)).size
          case rest =>
            obtain ⟨Z2, A2, c2x, hF2, hz2, hM2, y0, hsz⟩ := hcut
            have hfew := HFew.out.push fm2 ps
            have HGON := Lib.hid (goOn_any (B := B0 + 1) (by have := HMm.out; have := HB.out; omega) hM2 hfew)
            have HF2 := Lib.hid hF2
            have HZ2 := Lib.hid hz2
            have HFew2 := Lib.hid hfew
            clear hF2 hz2 hM2 hfew x0 x0a x4 x4a f4 n0 n1 n2 n3 n4 n5 n6 n7 n8 n9 n10 HMz HFb HP
            go_wp2_with (first
              | (go_at_call 29; (with_reducible refine HGON.out.mono ?_); rintro e w7 ⟨v7, Z7, fv7, tv7, ov7, rs7, os7, rfl, hF7, hz7, hM7, hr7, ho7, hn7⟩; have HF7 := Lib.hid hF7; have HZ7 := Lib.hid hz7; have HM7 := Lib.hid hM7; have HR7 := Lib.hid hr7; have HO7 := Lib.hid ho7; have HN7 := Lib.hid hn7; clear hF7 hz7 hM7 hr7 ho7 hn7))
            go_roundg k
            case measure => omega
            case rel =>
              have hg : EX.go ns k (EX.goOn (rs.map (·.1)) tops (⟨{ fm2 with l := [] }, ps⟩ :: os.map (·.o))) = some X := HG2.out
              have hgd := good_goOn ns _ (⟨{ fm2 with l := [] }, ps⟩ :: os.map (·.o)) rfl (rs.map (·.1)) tops (fun o ho => by
                rcases List.mem_cons.1 ho with rfl | ho
                · exact HGP.out
                · exact HG.out o ho)
              have hfw := few_goOn (B0 + 1) _ (⟨{ fm2 with l := [] }, ps⟩ :: os.map (·.o)) rfl (rs.map (·.1)) tops HFew2.out
              have hnn := goOn_none _ (⟨{ fm2 with l := [] }, ps⟩ :: os.map (·.o)) rfl (rs.map (·.1)) tops
              have hR7 := HR7.out
              have hO7 := HO7.out
              have hN7 := HN7.out
              have hM7 := HM7.out
              simp only [List.map_cons] at hR7 hO7 hN7 hM7
              obtain ⟨R, hR⟩ : ∃ R, EX.goOn (rs.map (·.1)) tops (⟨{ fm2 with l := [] }, ps⟩ :: os.map (·.o)) = R := ⟨_, rfl⟩
              rw [hR] at hg hgd hfw hnn hR7 hO7 hN7 hM7
              obtain ⟨r1, r2, r3, r4⟩ := R
              simp only at hgd hfw hnn hR7 hO7 hN7 hM7
              subst hR7 hO7
              refine ⟨Z7, fv7, tv7, ov7, rs7, r2, os7, r4, B0 + 1, far_sub HF2.out HZ2.out HF7.out (fun x hx _ => hx), HZ2.out.of HZ7.out HF2.out.size, hM7, hN7, hg, by have := HMm.out; omega, hfw, hgd.1, hgd.2, fun e => ?_⟩
              have := hnn e
              exact List.map_eq_nil_iff.1 this
        | ins p2 =>
          obtain ⟨v2, hv, hI2⟩ := HIs.out
          obtain ⟨rfl, -, -, -, -, rfl, rfl, rfl⟩ := plV_inj hv
          obtain ⟨j, rfl, hrj⟩ := res_ins HRes.out
          obtain ⟨f2, cs2, rfl, hcf2, hC2⟩ := part_any (HL.out.rdy HMz.out.env) hI2 HTh.out HWe.out
          have hne : ∀ W, (binOp .neq 75 (.func (.func f2) #[] cs2) .nilFunc).run Tryz.prog W = .ok (.bool true) W := fun W => by kernel_rfl
          have HC2 := Lib.hid hC2
          have HRj := Lib.hid hrj
          have HTH := Lib.hid (ev_there HL.out.ok p2 HTh.out)
          have HWE := Lib.hid (ev_wee HL.out.few p2 HWe.out)
          clear hv hI2 hC2 hrj HIs HTh HWe HRes n0 n1 n2 n3 n4 n5 n6 n7 n8 n9
          go_wp2_with (fail)
          refine HC2.out.mono ?_
          rintro e w5 ⟨v5, rfl, hI5, hF5⟩
          obtain ⟨bad5, fm5, A5, mm5, cc5, A6, m6, c6, ins5, rfl, hins⟩ := hI5.asPl
          have HI5 := Lib.hid hI5
          have HF5 := Lib.hid hF5
          have HBox : Hid (PlBox w5 b) := Lib.hid ⟨_, _, _, _, _, _, _, _, _, _, _, HRow.out.far hF5 (by simp)⟩
          clear hI5 hF5 HC2 hcf2 hne
          unfold plV num
          obtain ⟨v0, v1, v2, v3, v4, v5, v6, v7, v8, v9, v10, y0, y1, y2, y3, y4, y5, y6, y7, y8, y9, y10, hfz⟩ := HBox.out.cells
          go_wp2
          go_roundg j
          case measure => omega
          case rel =>
            have hbz : ∀ x ∈ [b], x < w5.heap.size → x ∈ b :: Z1 := fun x hx _ => by simp at hx; simp [hx]
            refine ⟨ev ns p2, bad5, fm5, .slice A5 mm5 cc5, .slice A6 m6 c6, ins5, HBox.out.set bad5 fm5.kind fm5.at_ fm5.n fm5.s _ _ _, HI5.out.far (far_setPl w5 b bad5 fm5.kind fm5.at_ fm5.n fm5.s _ _ _) hbz, HRj.out, HTH.out, HWE.out, ?_, ?_⟩
            · exact (HFb.out.trans HF5.out (by simp)).trans (far_setPl w5 b bad5 fm5.kind fm5.at_ fm5.n fm5.s _ _ _) (fun x hx _ => hx)
            · exact (HMz.out.to HF5.out).poke HM.out HBZ.out (far_setPl w5 b bad5 fm5.kind fm5.at_ fm5.n fm5.s _ _ _)
end
end EW
end Go.Proofs.YtaghlpolljaedaaGreat
