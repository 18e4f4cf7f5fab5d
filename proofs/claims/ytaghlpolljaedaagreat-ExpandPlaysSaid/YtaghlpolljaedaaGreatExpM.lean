/-
  Several texts in one: ExpM1, ExpM2, ExpM3. Each one's own head tells its conditions.
-/
import Derived.Test.YtaghlpolljaedaaGreatExpBase
import Derived.Deep.RegionLaw
import Derived.Deep.DeepCutAuto
import Derived.Deep.QuietTactic
import Derived.BigQuiet
import Derived.Test.YtaghlpolljaedaaGreatExpPure
import Derived.Test.YtaghlpolljaedaaGreatExpCb
import Derived.Deep.LoopGhost
import Derived.Deep.RegionHeld3
import Derived.Test.YtaghlpolljaedaaGreatExpCd
/-
  Contract of layer 8's code: finish. Conditions: there are no more than 200000 forms.
-/
namespace Go.Proofs.YtaghlpolljaedaaGreat
open Go.RowKit
namespace EW
open LX SX RW6 EX
open RX (Nd)
open RM6 (Kin)
theorem plans_slice : Tryz.prog.underlying 49 = some (.slice 78) := by kernel_rfl
theorem plan_info : (Tryz.prog.info? 78).map (fun i => (i.zero, i.size, i.bytes)) = some (some (.agg #[.bool false, .int .u8 0, .int .i64 0, .int .i64 0, .int .i64 0, .string ⟨#[]⟩, .slice none 0 0, .int .u64 0, .slice none 0 0, .slice none 0 0, .nilFunc]), 11, 144) := by kernel_rfl
/-- What is open, when form n is whole. -/
def aftO (n : Nat) : List EX.Op → List EX.Op
  | [] => []
  | o :: os => o.add n :: os
def aftT (n : Nat) (os : List EX.Op) (tops : List Nat) : List Nat := match os with
  | [] => tops ++ [n]
  | _ :: _ => tops
/-- What finish comes to. -/
def FinQ (w0 w : World) (Z : List Nat) (q mb : Nat) (dv : Value) (rs : List (Fm × Value × Value)) (tops : List Nat) (x : Fm × Value × Value) (os : List EX.Op) (e : Ending) (w' : World) : Prop :=
  e = .returned (.tuple #[]) ∧ MM.Far Z w w' ∧ ∃ Z' fv' tv' ov' os', Zto w w' Z Z' ∧ Mx w0 w' Z' q mb dv fv' tv' ov' ov' (rs ++ [x]) (aftT rs.length os tops) os' [] ∧ os'.map (·.o) = aftO rs.length os
/-- Behind the first append, and behind the cut of what is open. -/
def Cut1 (w0 w : World) (Z : List Nat) (q mb : Nat) (dv tv hv ov : Value) (rs : List (Fm × Value × Value)) (n : Nat) (tops : List Nat) (os : List Pc) (wx : World) : Prop :=
  MM.Far Z w wx ∧ ∃ Z' A c, Zto w wx Z Z' ∧ Mx w0 wx Z' q mb dv (.slice A n c) tv hv ov rs tops os []
theorem far_sub {S Z Z' : List Nat} {w w1 w2 : World} (f : MM.Far Z w w1) (zt : Zto w w1 Z Z') (g : MM.Far S w1 w2) (hS : ∀ b ∈ S, b < w1.heap.size → b ∈ Z') : MM.Far Z w w2 :=
  f.trans g (fun b hb hl => by
    rcases zt.new b (hS b hb (Nat.lt_of_lt_of_le hl f.size)) with h | h
    · exact h
    · omega)
section
variable {w0 w : World} {Z : List Nat} {q mb : Nat} {dv fv tv ov : Value} {rs : List (Fm × Value × Value)} {tops : List Nat} {os : List Pc}
set_option maxHeartbeats 4000000 in
set_option maxRecDepth 20000 in
theorem finish_any {x : Pc} (h : Mx w0 w Z q mb dv fv tv ov ov rs tops (x :: os) []) (hn : rs.length + os.length ≤ 200000) (ht : tops.length ≤ 100000) (hl : ∀ p ∈ os, p.o.f.l.length ≤ 100000) :
    Calls Tryz.prog 67 #[ptr q, .agg #[.int .u8 x.o.f.kind, .int .i64 x.o.f.at_, .int .i64 x.o.f.n, .int .i64 0, .string x.o.f.s, x.pv, .int .u64 0, x.lv]] w
      (FinQ w0 w Z q mb dv rs tops (x.o.f, x.pv, x.lv) (os.map (·.o))) := by
  obtain ⟨og, oc, rfl, hc1, hc2, -, -, hog, hog0, hogZ⟩ := h.open_at
  have hD := h.drop
  obtain ⟨rA, rc, rfl⟩ := own_form w0 h.row
  have hPV := (h.rd.prt x (List.mem_cons_self ..)).1
  obtain ⟨lA, lc, hlv⟩ : ∃ A c, x.lv = .slice A x.o.f.l.length c := own_form w0 (h.kin.each (x.lv, x.o.f.l) (by simp [kinsO]))
  obtain ⟨⟨f, ps⟩, pv, lv, av⟩ := x
  simp only at hD hPV hlv ⊢
  subst hlv
  obtain ⟨pA, pc, rfl, -⟩ := hPV.form
  obtain ⟨np, hnp⟩ : ∃ np, (strs f.p).length = np := ⟨_, rfl⟩
  obtain ⟨nl, hnl⟩ : ∃ nl, f.l.length = nl := ⟨_, rfl⟩
  have hone := fm_one f pA lA np pc nl lc
  rw [hnp, hnl]
  rw [hnp] at hPV
  rw [hnl] at hD
  obtain ⟨OB, hOB⟩ : ∃ o : Obj, .cells #[.int .u8 f.kind, .int .i64 f.at_, .int .i64 f.n, .int .i64 0, .string f.s, .slice pA np pc, .int .u64 0, .slice lA nl lc] 41 = o := ⟨_, rfl⟩
  have F0 := (MM.Far.refl [] w).alloc OB
  have hD0 := hD.to F0
  have hPV0 := hPV.far F0 (by simp)
  have c2 := hD0.head.at (i := 2) rfl
  have f2 := hD0.head.frozen 2
  have hB : MM.Row (w.alloc OB) w.heap.size 41 [.int .u8 f.kind, .int .i64 f.at_, .int .i64 f.n, .int .i64 0, .string f.s, .slice pA np pc, .int .u64 0, .slice lA nl lc] := by
    rw [← hOB]
    exact MM.Row.new w 41 [.int .u8 f.kind, .int .i64 f.at_, .int .i64 f.n, .int .i64 0, .string f.s, .slice pA np pc, .int .u64 0, .slice lA nl lc]
  have z0 := hB.at (i := 0) rfl
  have z1 := hB.at (i := 1) rfl
  have z2 := hB.at (i := 2) rfl
  have z3 := hB.at (i := 3) rfl
  have z4 := hB.at (i := 4) rfl
  have z5 := hB.at (i := 5) rfl
  have z6 := hB.at (i := 6) rfl
  have z7 := hB.at (i := 7) rfl
  have HD := Lib.hid hD0
  have HPV := Lib.hid hPV0
  have HF0 := Lib.hid F0
  have HONE := Lib.hid hone
  have HNL := Lib.hid hnl
  have hoc : ¬ oc = 0 := by omega
  have hcI : (os.length : Int) ≤ (oc : Int) := by omega
  have hcI2 : (0 : Int) ≤ (os.length : Int) := by omega
  unfold maxLen at hc2
  have HZ := Lib.hid h.z
  have hbW := HD.out.far.size
  clear h hD hPV hB F0 hD0 hPV0 hone hnp hnl hog hog0 hogZ
  unfold ptr
  subst hOB
  go_enter Tryz.func67, Tryz.ntmps67
  go_wp2
  generalize hWE : w.alloc (.cells #[.int .u8 f.kind, .int .i64 f.at_, .int .i64 f.n, .int .i64 0, .string f.s, .slice pA np pc, .int .u64 0, .slice lA nl lc] 41) = W at *
  have c2a := (HD.out.to ((MM.Far.refl [] W).alloc (.cells #[.int .u8 f.kind, .int .i64 f.at_, .int .i64 f.n, .int .i64 0, .string f.s, .slice pA np pc, .int .u64 0, .slice lA nl lc] 41))).head.at (i := 2) rfl
  go_cut [] (fun wx => Cut1 w0 w Z q mb dv tv (.slice (some ⟨og, 0, none⟩) (os.length + 1) oc) (.slice (some ⟨og, 0, none⟩) os.length oc) (rs ++ [(f, .slice pA np pc, .slice lA nl lc)]) (rs.length + 1) tops os wx)
  case first =>
    go_region_law (
      refine MO.step_append ?_ (.tmp 15) (.tmp 17) 25 ?_ w0.heap.size 41 _ 8 104 forms_slice form_info rfl (by omega) (.slice rA rs.length rc) rs.length (fmC rs) ?_ ?_ (some ⟨W.heap.size, 0, none⟩) 1 1 (fmL (f, .slice pA np pc, .slice lA nl lc)) ?_ rfl (fun h => by cases h) [] ?_ HONE.out ?_ ?_ ?_ ?_
      · rfl
      · rfl
      · rfl
      · exact HD.out.row.alloc _
      · rfl
      · exact (MM.Src.row (MM.Row.new W 41 (fmL (f, .slice pA np pc, .slice lA nl lc))) (by simp) _ (fun j u hu => hu))
      · simp only [maxLen]; omega
      · omega
      · simp; omega
      intro v2 w2 hv2 hg2 hat2
      obtain ⟨A2, c2x, rfl⟩ := own_form w0 hv2
      have hat3 : (Value.slice A2 (rs.length + 1) c2x).ownBlock = (Value.slice rA rs.length rc).ownBlock ∨ ∃ b, (Value.slice A2 (rs.length + 1) c2x).ownBlock = some b ∧ W.heap.size ≤ b := hat2.imp id (fun e => ⟨_, e, ((MM.Far.refl [] W).alloc _).drew.size⟩)
      have F2 : MM.Far (Value.slice rA rs.length rc).ownBlock.toList W w2 := RC6.far_app hg2
      have HH2 : Hid (MM.Row w2 q 51 _) := Lib.hid (HD.out.head.far F2 (fun hm => MM.own_row_ne HD.out.row HD.out.head (by decide) (by simpa using hm)))
      have d2W := HH2.out.at (i := 2) rfl
      have e2W := HH2.out.frozen 2
      have HN := Lib.hid (HD.out.form (w1 := w2) f (.slice pA np pc) (.slice lA nl lc) HPV.out hv2 F2 hat3)
      have HA2 := Lib.hid (ztoOf (w1 := w2) HD.out.zf hat3)
      have HF2 := Lib.hid F2
      clear hg2 hv2 hat2 hat3)
    all_goals
      go_wp2_with fail
      go_meet
      refine ⟨?_, _, A2, c2x, ⟨HA2.out.sub, fun b hb => (HA2.out.new b hb).imp id (fun h => Nat.le_trans HF0.out.size h)⟩, HN.out⟩
      exact ((HF0.out.mono (fun b hb _ => by cases hb)).trans HF2.out (fun b hb _ => HD.out.zf b (by simpa using hb))).trans (cell_far w2 q 2 _) (fun b hb _ => by simp at hb; subst hb; exact HD.out.zq)
  case rest =>
    obtain ⟨hF1, Z1, A1, c1, hz1, hM1⟩ := hcut
    have HM1 := Lib.hid hM1
    have HF1 := Lib.hid hF1
    have HZ1 := Lib.hid hz1
    have k4 := hM1.head.at (i := 4) rfl
    have kf4 := hM1.head.frozen 4
    clear hF1 hz1 hM1 z0 z1 z2 z3 z4 z5 z6 z7 c2 f2 c2a HD HPV HF0 HONE hWE
    go_upto_region 3 with fail
    go_cut [] (fun wx => MM.Far Z w wx ∧ ∃ Z', Zto w wx Z Z' ∧ Mx w0 wx Z' q mb dv (.slice A1 (rs.length + 1) c1) tv (.slice (some ⟨og, 0, none⟩) os.length oc) (.slice (some ⟨og, 0, none⟩) os.length oc) (rs ++ [(f, .slice pA np pc, .slice lA nl lc)]) tops os [])
    case first =>
      go_region
      all_goals
        go_wp2
        go_meet
        refine ⟨?_, Z1, ⟨HZ1.out.sub, HZ1.out.new⟩, (HM1.out.cut).to ((MM.Far.refl [] _).drew)⟩
        exact (far_sub HF1.out HZ1.out (cell_far wc q 4 _) (fun b hb _ => by simp at hb; subst hb; exact HM1.out.zq)).drew
    case rest =>
      obtain ⟨hF2, Z2, hz2, hM2⟩ := hcut
      have HM := Lib.hid hM2
      have HF := Lib.hid hF2
      have HZ2 := Lib.hid hz2
      have k3 := hM2.head.at (i := 3) rfl
      have k4 := hM2.head.at (i := 4) rfl
      have hb3 := hM2.far.size
      have HT : Hid (wc.ownsRow w0.heap.size 3 1 tv tops.length (ints tops)) := Lib.hid (hM2.kin.each _ (List.mem_cons_self ..))
      clear hF2 hz2 hM2 HM1 HF1 HZ1 kf4
      by_cases ho : os.length = 0
      · have d0 : decide ((os.length : Int) = 0) = true := by simp [ho]
        go_wp2_with (first
          | (at_builtin; refine RC6.kin_push HT.out hb3 (by omega) rfl (.tmp 45) (.tmp 47) rfl rfl rfl ?_; intro tA tc w4 ho4 hf4 ha4; have HH4 : Hid (MM.Row w4 q 51 _) := Lib.hid (HM.out.head.far hf4 (fun hm => MM.own_row_ne HT.out HM.out.head (by decide) (by simpa using hm))); have g1 := HH4.out.at (i := 3) rfl; have g2 := HH4.out.frozen 3; have HD := Lib.hid (HM.out.top ho4 hf4 ha4); have HA4 := Lib.hid (ztoOf (w1 := w4) (HM.out.zk _ (List.mem_cons_self ..)) ha4); have HF4 := Lib.hid hf4; clear ho4 hf4 ha4))
        refine bodyPost_ret (v := .tuple #[]) (results_none rfl _ _ _) rfl ?_
        obtain rfl : os = [] := List.eq_nil_of_length_eq_zero ho
        refine ⟨rfl, ?_, _, _, _, _, [], ?_, HD.out, rfl⟩
        · exact far_sub (far_sub HF.out HZ2.out HF4.out (fun b hb _ => HM.out.zk _ (List.mem_cons_self ..) b (by simpa using hb))) (Z' := Z2) ⟨HZ2.out.sub, HZ2.out.new⟩ (cell_far w4 q 3 _) (fun b hb _ => by simp at hb; subst hb; exact HM.out.zq)
        · exact (⟨HZ2.out.sub, HZ2.out.new⟩ : Zto w wc Z Z2).of ⟨HA4.out.sub, HA4.out.new⟩ HF.out.size
      · obtain ⟨y, os1, rfl⟩ : ∃ y os1, os = y :: os1 := by
          cases os with
          | nil => exact absurd rfl ho
          | cons y l => exact ⟨y, l, rfl⟩
        obtain ⟨og2, oc2, e, hc3, hc4, hcell, hfz, hog, hog0, hogZ⟩ := HM.out.open_at
        injection e with e1 e2 e3
        injection e1 with e1
        injection e1 with e1
        subst e1 e3
        clear e2 ho
        have HP0 := HM.out.kin.each (y.lv, y.o.f.l) (by simp [kinsO])
        obtain ⟨hA, hc, hylv⟩ : ∃ A c, y.lv = .slice A y.o.f.l.length c := own_form w0 HP0
        have hyl : y.o.f.l.length ≤ 100000 := hl y (List.mem_cons_self ..)
        have c8 := hcell 8 _ rfl
        have f8 := hfz (os1.length * 11 + 8)
        rw [hylv] at c8
        rw [List.length_cons] at k4
        have d0 : decide (((os1.length : Nat) : Int) + 1 = 0) = false := by simp; omega
        have hne := off_own HM.out.op HP0 (by decide) og rfl
        have hos : os1.length ≤ 200000 := by rw [List.length_cons] at hn; omega
        have HP : Hid (wc.ownsRow w0.heap.size 3 1 (.slice hA y.o.f.l.length hc) y.o.f.l.length (ints y.o.f.l)) := Lib.hid (hylv ▸ HP0)
        rw [hylv] at hne
        have HC8 := Lib.hid c8
        have HF8 := Lib.hid f8
        have HOG := Lib.hid hogZ
        clear hcell hfz hl hn ht HP0 hc3 hc4 hog0 f8
        have hI1 : (0 : Int) ≤ (os1.length : Int) := by omega
        have hI2 : (os1.length : Int) < (os1.length : Int) + 1 := by omega
        go_wp2
        go_quiet (fail)
        have HPd := Lib.hid (MM.own_far HP.out ((MM.Far.refl [] wc).drewN nq) (by simp))
        have HNd := Lib.hid (HM.out.to ((MM.Far.refl [] wc).drewN nq))
        go_wp2_with (first
          | (at_builtin; refine RC6.kin_push (w := wc.drewN nq) HPd.out hb3 (by omega) rfl (.tmp 67) (.tmp 69) rfl rfl rfl ?_; intro tA tc w5 ho5 hf5 ha5
             have c5L := (hf5.cell (p := ⟨og, os1.length * 11 + 8, none⟩) hog hne).trans HC8.out
             have c5f := (hf5.frozen (p := ⟨og, os1.length * 11 + 8, none⟩) hog hne).trans HF8.out
             have HMo := Lib.hid (HNd.out.more (lv' := .slice tA (y.o.f.l.length + 1) tc) rfl ho5 (hylv.symm ▸ hf5) (hylv.symm ▸ ha5))
             have HA5 := Lib.hid (ztoOf (w1 := w5) (HNd.out.zk (y.lv, y.o.f.l) (by simp [kinsO])) (v' := .slice tA (y.o.f.l.length + 1) tc) (hylv.symm ▸ ha5))
             have HF5 := Lib.hid hf5
             clear ho5 hf5 ha5))
        refine bodyPost_end (results_none rfl _ _ _) rfl ?_
        refine ⟨rfl, ?_, _, _, _, _, _, ?_, HMo.out, rfl⟩
        · exact far_sub (far_sub HF.out HZ2.out (((MM.Far.refl (Value.slice hA y.o.f.l.length hc).ownBlock.toList wc).drewN nq).trans HF5.out (fun b hb _ => hb)) (fun b hb _ => HM.out.zk (y.lv, y.o.f.l) (by simp [kinsO]) b (by rw [hylv]; simpa using hb))) (Z' := Z2) ⟨HZ2.out.sub, HZ2.out.new⟩ (cell_far w5 og _ _) (fun b hb _ => by simp at hb; subst hb; exact HOG.out)
        · exact (⟨HZ2.out.sub, HZ2.out.new⟩ : Zto w wc Z Z2).of ⟨HA5.out.sub, HA5.out.new⟩ HF.out.size
end
end EW
end Go.Proofs.YtaghlpolljaedaaGreat
/-
  Contract of layer 8's code: goOn. Conditions: there are no more than 100000 forms.
-/
namespace Go.Proofs.YtaghlpolljaedaaGreat
open Go.RowKit
namespace EW
open LX SX RW6 EX
open RX (Nd)
open RM6 (Kin)
def nextQ (w : World) (Z : List Nat) (q : Nat) (v : Value) : Option Pt → Prop
  | none => v = .nilFunc
  | some p => Is w Z q v p
/-- What goOn comes to. -/
def GoQ (w0 w : World) (Z : List Nat) (q mb : Nat) (dv : Value) (R : EX.St) (e : Ending) (w' : World) : Prop :=
  ∃ v Z' fv tv ov rs os, e = .returned v ∧ MM.Far Z w w' ∧ Zto w w' Z Z' ∧ Mx w0 w' Z' q mb dv fv tv ov ov rs R.tops os [] ∧ rs.map (·.1) = R.row ∧ os.map (·.o) = R.op ∧ nextQ w' Z' q v R.next
def GoI (w0 w : World) (Z : List Nat) (q mb : Nat) (dv : Value) (R : EX.St) (B k : Nat) (wr : World) : Prop :=
  ∃ Z' fv tv ov rs tops os, k = os.length ∧ MM.Far Z w wr ∧ Zto w wr Z Z' ∧ Mx w0 wr Z' q mb dv fv tv ov ov rs tops os [] ∧ EX.goOn (rs.map (·.1)) tops (os.map (·.o)) = R ∧ Few B (rs.map (·.1)) tops (os.map (·.o))
theorem goOn_cons_fin (row : List Fm) (tops : List Nat) (o : EX.Op) (os : List EX.Op) (h : ¬ o.f.l.length < o.ps.length) : EX.goOn row tops (o :: os) = EX.goOn (row ++ [o.f]) (aftT row.length os tops) (aftO row.length os) := by
  rw [goOn_fin _ _ _ _ h]
  cases os with
  | nil => rw [show aftO row.length [] = [] from rfl, goOn_nil]; rfl
  | cons o2 os2 => rfl
theorem few_fin {B : Nat} {row : List Fm} {tops : List Nat} {o : EX.Op} {os : List EX.Op} (h : Few B row tops (o :: os)) : Few B (row ++ [o.f]) (aftT row.length os tops) (aftO row.length os) := by
  cases os with
  | nil => exact h.last
  | cons o2 os2 => exact h.add
theorem aftO_len (n : Nat) (os : List EX.Op) : (aftO n os).length = os.length := by cases os <;> simp [aftO]
section
variable {w0 w : World} {Z : List Nat} {q mb : Nat} {dv fv tv ov : Value} {rs : List (Fm × Value × Value)} {tops : List Nat} {os : List Pc}
set_option maxHeartbeats 4000000 in
set_option maxRecDepth 20000 in
theorem goOn_any {B : Nat} (hB : B ≤ 100000) (h : Mx w0 w Z q mb dv fv tv ov ov rs tops os []) (hF : Few B (rs.map (·.1)) tops (os.map (·.o))) :
    Calls Tryz.prog 29 #[ptr q] w (GoQ w0 w Z q mb dv (EX.goOn (rs.map (·.1)) tops (os.map (·.o)))) := by
  obtain ⟨R, hR⟩ : ∃ R, EX.goOn (rs.map (·.1)) tops (os.map (·.o)) = R := ⟨_, rfl⟩
  have H0 : Hid (GoI w0 w Z q mb dv R B os.length w) := Lib.hid ⟨Z, fv, tv, ov, rs, tops, os, rfl, MM.Far.refl _ _, Zto.refl _ _ _, h, hR, hF⟩
  have HB := Lib.hid hB
  rw [hR]
  clear h hF hR hB
  unfold ptr
  go_enter Tryz.func29, Tryz.ntmps29
  go_wp2
  go_loopg [] os.length (fun k wr => GoI w0 w Z q mb dv R B k wr)
  case atStart => exact H0.out
  case round =>
    obtain ⟨Z1, fv, tv, ov, rs, tops, os, rfl, hF1, hz1, hM, hR, hFew⟩ := hrel
    have k4 := hM.head.at (i := 4) rfl
    have HM := Lib.hid hM
    have HF1 := Lib.hid hF1
    have HZ1 := Lib.hid hz1
    have HFew := Lib.hid hFew
    have HR := Lib.hid hR
    clear hF1 hz1 hM hR hFew H0
    cases os with
    | nil =>
      obtain ⟨oA, oc, rfl⟩ := own_form w0 HM.out.op
      have hl0 : ([] : List Pc).length = 0 := rfl
      rw [hl0] at k4
      clear hl0
      go_wp2
      go_ret
      have hR := HR.out
      rw [show List.map (fun x : Pc => x.o) [] = [] from rfl, goOn_nil] at hR
      subst hR
      exact ⟨.nilFunc, Z1, fv, tv, _, rs, [], rfl, HF1.out, HZ1.out, HM.out, rfl, rfl, rfl⟩
    | cons x os1 =>
      obtain ⟨og, oc, rfl, hc1, hc2, hcell, -, hog, hog0, hogZ⟩ := HM.out.open_at
      obtain ⟨hPV, vs, hAV, hIs⟩ := HM.out.rd.prt x (List.mem_cons_self ..)
      obtain ⟨lA, lc, hlv⟩ : ∃ A c, x.lv = .slice A x.o.f.l.length c := own_form w0 (HM.out.kin.each (x.lv, x.o.f.l) (by simp [kinsO]))
      obtain ⟨⟨f, ps⟩, pv, lv, av⟩ := x
      simp only at hPV hAV hIs hlv
      subst hlv
      obtain ⟨pA, pc, rfl, -⟩ := hPV.form
      obtain ⟨aA, ac, rfl, -⟩ := hAV.form
      obtain ⟨np, hnp⟩ : ∃ np, (strs f.p).length = np := ⟨_, rfl⟩
      obtain ⟨nl, hnl⟩ : ∃ nl, f.l.length = nl := ⟨_, rfl⟩
      obtain ⟨na, hna⟩ : ∃ na, vs.length = na := ⟨_, rfl⟩
      have hps : ps.length = na := by rw [← hna]; exact hIs.1.symm
      rw [hnp, hnl, hna] at hcell HM
      rw [hna] at hAV
      have d0 := hcell 0 _ rfl
      have d1 := hcell 1 _ rfl
      have d2 := hcell 2 _ rfl
      have d3 := hcell 3 _ rfl
      have d4 := hcell 4 _ rfl
      have d5 := hcell 5 _ rfl
      have d6 := hcell 6 _ rfl
      have d7 := hcell 7 _ rfl
      have d8 := hcell 8 _ rfl
      have d9 := hcell 9 _ rfl
      have d10 := hcell 10 _ rfl
      simp only [Nat.add_zero] at d0
      have hI1 : (0 : Int) ≤ (os1.length : Int) := by omega
      have hI2 : (os1.length : Int) < (os1.length : Int) + 1 := by omega
      have hI3 : (0 : Int) < (os1.length : Int) + 1 := by omega
      have hos : os1.length ≤ 100000 := by have h1 := HFew.out.sum; have := HB.out; simp only [List.length_map, List.length_cons] at h1; omega
      have hw1 : IntKind.i64.wrap (os1.length : Int) = (os1.length : Int) := IntWalk.i64_in _ (by omega)
      have hw2 : IntKind.i64.wrap ((os1.length : Int) + 1 - 1) = (os1.length : Int) := by rw [Int.add_sub_cancel]; exact hw1
      have HNP := Lib.hid hnp
      have HNL := Lib.hid hnl
      have HPS := Lib.hid hps
      have HAV := Lib.hid hAV
      have HIS := Lib.hid hIs
      clear hcell hPV hAV hIs hnp hnl hna hps hog0 hc1 hc2
      go_upto_region 2 with fail
      go_region_held3 (fun w' => w'.cell? ⟨q, 4, none⟩ = some (.slice (some ⟨og, 0, none⟩) (os1.length + 1) oc) ∧ w'.cell? ⟨og, os1.length * 11, none⟩ = some (.bool false) ∧ w'.cell? ⟨og, os1.length * 11 + 1, none⟩ = some (.int .u8 f.kind) ∧ w'.cell? ⟨og, os1.length * 11 + 2, none⟩ = some (.int .i64 f.at_) ∧ w'.cell? ⟨og, os1.length * 11 + 3, none⟩ = some (.int .i64 f.n) ∧ w'.cell? ⟨og, os1.length * 11 + 4, none⟩ = some (.int .i64 0) ∧ w'.cell? ⟨og, os1.length * 11 + 5, none⟩ = some (.string f.s) ∧ w'.cell? ⟨og, os1.length * 11 + 6, none⟩ = some (.slice pA np pc) ∧ w'.cell? ⟨og, os1.length * 11 + 7, none⟩ = some (.int .u64 0) ∧ w'.cell? ⟨og, os1.length * 11 + 8, none⟩ = some (.slice lA nl lc) ∧ w'.cell? ⟨og, os1.length * 11 + 9, none⟩ = some (.slice aA na ac) ∧ w'.cell? ⟨og, os1.length * 11 + 10, none⟩ = some (.nilFunc)) (go_keep) (fail)
      obtain ⟨W2, hW2⟩ : ∃ W2, (wr.alloc (.cells #[.bool false, .int .u8 f.kind, .int .i64 f.at_, .int .i64 f.n, .int .i64 0, .string f.s, .slice pA np pc, .int .u64 0, .slice lA nl lc, .slice aA na ac, .nilFunc] 78)).drew = W2 := ⟨_, rfl⟩
      have G0 : MM.Far [] wr W2 := by rw [← hW2]; exact ((MM.Far.refl [] wr).alloc _).drew
      have NB : MM.Row W2 wr.heap.size 78 [.bool false, .int .u8 f.kind, .int .i64 f.at_, .int .i64 f.n, .int .i64 0, .string f.s, .slice pA np pc, .int .u64 0, .slice lA nl lc, .slice aA na ac, .nilFunc] := by rw [← hW2]; exact (MM.Row.new wr 78 [.bool false, .int .u8 f.kind, .int .i64 f.at_, .int .i64 f.n, .int .i64 0, .string f.s, .slice pA np pc, .int .u64 0, .slice lA nl lc, .slice aA na ac, .nilFunc]).drew
      obtain ⟨bi, hbi⟩ : ∃ bi, wr.heap.size = bi := ⟨_, rfl⟩
      rw [hW2]
      rw [hbi] at NB ⊢
      have n1 := NB.at (i := 1) rfl
      have n2 := NB.at (i := 2) rfl
      have n3 := NB.at (i := 3) rfl
      have n4 := NB.at (i := 4) rfl
      have n5 := NB.at (i := 5) rfl
      have n6 := NB.at (i := 6) rfl
      have n7 := NB.at (i := 7) rfl
      have n8 := NB.at (i := 8) rfl
      have n9 := NB.at (i := 9) rfl
      have HG0 := Lib.hid G0
      have HM2 := Lib.hid (HM.out.to G0)
      clear d0 d1 d2 d3 d4 d5 d6 d7 d8 d9 d10 k4 hI1 hI2 hI3 NB G0 hW2
      by_cases hlt : nl < na
      · obtain ⟨v, hv⟩ : ∃ v, vs[nl]? = some v := by
          have h1 := HIS.out.1
          have h2 := HPS.out
          exact ⟨vs[nl], List.getElem?_eq_getElem (by omega)⟩
        obtain ⟨g, o, rfl⟩ := sl_some HAV.out hv
        have e0 := far_cell HG0.out (sl_at HAV.out hv)
        have hpl : nl < ps.length := by have := HPS.out; omega
        have hIv := HIS.out.2 nl v ps[nl] hv (List.getElem?_eq_getElem hpl)
        obtain ⟨f1, l1, rfl⟩ := hIv.func
        have HIV := Lib.hid (hIv.far HG0.out (by simp))
        have hx0 : (0 : Int) ≤ (nl : Int) := by omega
        have hx1 : (nl : Int) < (na : Int) := by omega
        clear hIv hv
        go_wp2
        go_ret
        have hR := HR.out
        have hlt2 : f.l.length < ps.length := by rw [HNL.out, HPS.out]; exact hlt
        rw [show List.map (fun x : Pc => x.o) (⟨⟨f, ps⟩, .slice pA (strs f.p).length pc, .slice lA f.l.length lc, .slice (some ⟨g, o, none⟩) vs.length ac⟩ :: os1) = ⟨f, ps⟩ :: os1.map (·.o) from rfl, goOn_next _ _ _ _ hlt2] at hR
        subst hR
        refine ⟨_, Z1, fv, tv, _, rs, _, rfl, HF1.out.trans HG0.out (by simp), ⟨HZ1.out.sub, HZ1.out.new⟩, HM2.out, rfl, rfl, ?_⟩
        show Is _ _ _ _ (ps[f.l.length])
        have e : ps[f.l.length]'hlt2 = ps[nl]'(by rw [← HNL.out]; exact hlt2) := by congr 1 <;> exact HNL.out
        rw [e]
        exact HIV.out
      · have hx1 : ¬ (nl : Int) < (na : Int) := by omega
        have hFew2 := HFew.out
        have HFIN := Lib.hid (finish_any HM2.out (by have h1 := hFew2.sum; have h2 := HB.out; simp only [List.length_map, List.length_cons] at h1; omega) (by have h1 := hFew2.tops; have h2 := hFew2.sum; have h3 := HB.out; simp only [List.length_map, List.length_cons] at h1 h2; omega) (fun y hy => by
          have h1 := hFew2.lists y.o (List.mem_cons_of_mem _ (List.mem_map_of_mem hy))
          have h2 := hFew2.sum
          have := HB.out
          simp only [List.length_map, List.length_cons] at h1 h2
          omega))
        simp only at HFIN
        clear hFew2
        go_wp2_with (first
          | (go_at_call 67; (with_reducible refine HFIN.out.mono ?_); rintro e w3 ⟨rfl, hF3, Z3, fv3, tv3, ov3, os3, hz3, hM3, ho3⟩; have HM3 := Lib.hid hM3; have HF3 := Lib.hid hF3; have HZ3 := Lib.hid hz3; have HO3 := Lib.hid ho3; clear hM3 hF3 hz3 ho3))
        go_roundg os3.length
        case measure =>
          have := congrArg List.length HO3.out
          rw [List.length_map, aftO_len, List.length_map] at this
          rw [List.length_cons]; omega
        case rel =>
          have hlt2 : ¬ f.l.length < ps.length := by rw [HNL.out, HPS.out]; exact hlt
          have e2 : List.map (fun x : Pc => x.o) (⟨⟨f, ps⟩, .slice pA (strs f.p).length pc, .slice lA f.l.length lc, .slice aA vs.length ac⟩ :: os1) = ⟨f, ps⟩ :: os1.map (·.o) := rfl
          refine ⟨Z3, fv3, tv3, ov3, _, _, os3, rfl, far_sub HF1.out ⟨HZ1.out.sub, HZ1.out.new⟩ (((MM.Far.refl Z1 wr).trans HG0.out (by simp)).trans HF3.out (fun b hb _ => hb)) (fun b hb _ => hb), (⟨HZ1.out.sub, HZ1.out.new⟩ : Zto w wr Z Z1).of ⟨HZ3.out.sub, fun b hb => (HZ3.out.new b hb).imp id (fun h => Nat.le_trans HG0.out.size h)⟩ HF1.out.size, HM3.out, ?_, ?_⟩
          · rw [← HR.out, e2, goOn_cons_fin _ _ _ _ hlt2, HO3.out, List.map_append, List.length_map]; rfl
          · have hf := HFew.out
            rw [e2] at hf
            have hf := few_fin hf
            rw [HO3.out, List.map_append]
            rw [List.length_map] at hf
            exact hf
end
end EW
end Go.Proofs.YtaghlpolljaedaaGreat
/-
  Layer 8's code: what the machine's parts are good for while it runs; boxes besides. No condition.
-/
namespace Go.Proofs.YtaghlpolljaedaaGreat
open Go.RowKit
namespace EW
open LX SX RW6 EX
open RX (Nd)
open RM6 (Kin)
def Good (ns : List Nd) (o : EX.Op) : Prop := ∀ p ∈ o.ps, There ns p ∧ Wee 100000 p
def GoodN (ns : List Nd) : Option Pt → Prop
  | none => True
  | some p => There ns p ∧ Wee 100000 p
theorem good_goOn (ns : List Nd) : ∀ (n : Nat) (op : List EX.Op), op.length = n → ∀ (row : List Fm) (tops : List Nat), (∀ o ∈ op, Good ns o) → (∀ o ∈ (EX.goOn row tops op).op, Good ns o) ∧ GoodN ns (EX.goOn row tops op).next := by
  intro n
  induction n with
  | zero =>
    intro op hn row tops h
    obtain rfl := List.eq_nil_of_length_eq_zero hn
    rw [goOn_nil]
    exact ⟨h, trivial⟩
  | succ n ih =>
    intro op hn row tops h
    cases op with
    | nil => cases hn
    | cons o os =>
      by_cases hlt : o.f.l.length < o.ps.length
      · rw [goOn_next _ _ _ _ hlt]
        exact ⟨h, h o (List.mem_cons_self ..) _ (List.getElem_mem hlt)⟩
      · rw [goOn_fin _ _ _ _ hlt]
        cases os with
        | nil => exact ⟨fun o ho => by simp at ho, trivial⟩
        | cons o2 os2 =>
          refine ih (o2.add row.length :: os2) (by simpa using hn) _ _ (fun x hx => ?_)
          rcases List.mem_cons.1 hx with rfl | hx
          · exact h o2 (by simp)
          · exact h x (by simp [hx])
theorem goOn_none : ∀ (n : Nat) (op : List EX.Op), op.length = n → ∀ (row : List Fm) (tops : List Nat), (EX.goOn row tops op).next = none → (EX.goOn row tops op).op = [] := by
  intro n
  induction n with
  | zero =>
    intro op hn row tops h
    obtain rfl := List.eq_nil_of_length_eq_zero hn
    rw [goOn_nil]
  | succ n ih =>
    intro op hn row tops h
    cases op with
    | nil => cases hn
    | cons o os =>
      by_cases hlt : o.f.l.length < o.ps.length
      · rw [goOn_next _ _ _ _ hlt] at h; cases h
      · rw [goOn_fin _ _ _ _ hlt] at h ⊢
        cases os with
        | nil => rfl
        | cons o2 os2 => exact ih (o2.add row.length :: os2) (by simpa using hn) _ _ h
theorem IsPl.asPl {w : World} {Z : List Nat} {q : Nat} {v : Value} {pl : Pl} (h : IsPl w Z q v pl) : ∃ bad f A m c A2 m2 c2 ins, v = plV bad f (.slice A m c) (.slice A2 m2 c2) ins ∧ (∀ (a : Addr) (md : Mode) (W : World), (store a ins md).run Tryz.prog W = stored Tryz.prog W a ins md) := by
  cases pl with
  | bad a => exact ⟨_, _, _, _, _, _, _, _, _, h, store_one rfl⟩
  | mk fm ps =>
    obtain ⟨pv, parts, vs, rfl, h1, h2, h3⟩ := h
    obtain ⟨A, c, rfl, _⟩ := h1.form
    obtain ⟨A2, c2, rfl, _⟩ := h2.form
    exact ⟨_, _, _, _, _, _, _, _, _, rfl, store_one rfl⟩
  | ins p =>
    obtain ⟨v', rfl, h1⟩ := h
    obtain ⟨f, l, rfl⟩ := h1.func
    exact ⟨_, _, _, _, _, _, _, _, _, rfl, store_one rfl⟩
section
variable {w0 w w1 : World} {Z : List Nat} {q mb b : Nat} {dv fv tv hv ov : Value} {rs : List (Fm × Value × Value)} {tops : List Nat} {os : List Pc} {ex : List (Value × List Nat)}
/-- A box more that is written. -/
theorem Mx.wide (h : Mx w0 w Z q mb dv fv tv hv ov rs tops os ex) (f : MM.Far [] w w1) (hb : w.heap.size ≤ b) (hb2 : b < w1.heap.size) : Mx w0 w1 (b :: Z) q mb dv fv tv hv ov rs tops os ex := by
  have k := h.to f
  refine ⟨k.far, k.qb, k.head, k.row, k.op, k.kin, fun x hx => ?_, fun x hx => ?_, List.mem_cons_of_mem _ k.zq, fun x hx => List.mem_cons_of_mem _ (k.zf x hx), fun x hx => List.mem_cons_of_mem _ (k.zo x hx), fun y hy x hx => List.mem_cons_of_mem _ (k.zk y hy x hx), h.rd.step (fun x hx => ?_) f (by simp)⟩
  · rcases List.mem_cons.1 hx with rfl | hx
    · have := h.far.size; omega
    · exact k.low x hx
  · rcases List.mem_cons.1 hx with rfl | hx
    · exact hb2
    · exact k.z x hx
  · rcases List.mem_cons.1 hx with rfl | hx
    · exact .inr hb
    · exact .inl hx
/-- The box turns. -/
theorem Mx.poke {wR : World} (h : Mx w0 w (b :: Z) q mb dv fv tv hv ov rs tops os ex) (h1 : Mx w0 wR Z q mb dv fv tv hv ov rs tops os ex) (hb : b ∉ Z) (f : MM.Far [b] w w1) : Mx w0 w1 (b :: Z) q mb dv fv tv hv ov rs tops os ex := by
  have off : ∀ x, x ∈ Z → x ∉ [b] := fun x hx hm => by
    have : x = b := by simpa using hm
    subst this
    exact hb hx
  refine ⟨low_of f h.far (fun x hx => ?_), h.qb, h.head.far f (off _ h1.zq), MM.own_far h.row f (fun x hx => off x (h1.zf x hx)), MM.own_far h.op f (fun x hx => off x (h1.zo x hx)), h.kin.far f (fun k hk x hx => off x (h1.zk k hk x hx)), h.low, fun x hx => Nat.lt_of_lt_of_le (h.z x hx) f.size, h.zq, h.zf, h.zo, h.zk, h.rd.step (fun x hx => .inl hx) f (fun x hx _ => ?_)⟩
  · have : x = b := by simpa using hx
    subst this
    exact h.low _ (List.mem_cons_self ..)
  · have : x = b := by simpa using hx
    subst this
    exact List.mem_cons_self ..
end
/-- How the data lie, whatever else turns. -/
structure Lie (w0 : World) (DA : Option Addr) (n : Nat) (ns : List Nd) : Prop where
  nd : NdR w0 DA ns
  len : ns.length = n
  str : ∀ i, (ndAt ns i).s.size ≤ 140737488355328
  ok : Ok ns
  few : ∀ i, (ndAt ns i).l.length ≤ 100000
theorem Lie.rdy {w0 w : World} {Z : List Nat} {q mb n c : Nat} {DA : Option Addr} {ns : List Nd} (L : Lie w0 DA n ns) (h : Env w0 w Z q (.slice DA n c) mb) : Rdy w0 w Z q mb DA n c ns := ⟨h, L.nd, L.len, L.str, L.ok, fun i _ => L.few i⟩
/-- What expand comes to. -/
def XQ (w0 w : World) (Z : List Nat) (q mb : Nat) (dv : Value) (B : Nat) : Except Int (List Fm × List Nat) → Ending → World → Prop
  | .error a, e, w' => e = .returned (.tuple #[.int .i64 a, .int .i64 80]) ∧ MM.Far Z w w'
  | .ok r, e, w' => e = .returned (.tuple #[.int .i64 0, .int .i64 0]) ∧ MM.Far Z w w' ∧ ∃ Z' fv tv ov rs os, Zto w w' Z Z' ∧ Mx w0 w' Z' q mb dv fv tv ov ov rs r.2 os [] ∧ rs.map (·.1) = r.1 ∧ Few B r.1 r.2 (os.map (·.o)) ∧ os = []
/-- At the head of the loop. -/
def OutI (w0 wA : World) (Z : List Nat) (q mb : Nat) (dv : Value) (ns : List Nd) (B : Nat) (X : Except Int (List Fm × List Nat)) (k : Nat) (v : Value) (wr : World) : Prop :=
  ∃ Z1 fv tv ov rs tops os nx B0, MM.Far Z wA wr ∧ Zto wA wr Z Z1 ∧ Mx w0 wr Z1 q mb dv fv tv ov ov rs tops os [] ∧ nextQ wr Z1 q v nx ∧ EX.go ns k ⟨rs.map (·.1), tops, os.map (·.o), nx⟩ = some X ∧ B0 + k ≤ B ∧ Few B0 (rs.map (·.1)) tops (os.map (·.o)) ∧
    (∀ o ∈ os.map (·.o), Good ns o) ∧ GoodN ns nx ∧ (nx = none → os = [])
/-- At the head of the loop over what stands instead. -/
def InI (w0 wB : World) (Z1 : List Nat) (q mb b : Nat) (dv fv tv ov : Value) (rs : List (Fm × Value × Value)) (tops : List Nat) (os : List Pc) (ns : List Nd) (plF : Pl) (k : Nat) (wz : World) : Prop :=
  ∃ pl bad f pv parts ins, MM.Row wz b 78 (plL bad f pv parts ins) ∧ IsPl wz (b :: Z1) q (plV bad f pv parts ins) pl ∧ res ns k pl = some plF ∧ ThereP ns pl ∧ WeeP 100000 pl ∧ MM.Far [b] wB wz ∧ Mx w0 wz (b :: Z1) q mb dv fv tv ov ov rs tops os []
end EW
end Go.Proofs.YtaghlpolljaedaaGreat
