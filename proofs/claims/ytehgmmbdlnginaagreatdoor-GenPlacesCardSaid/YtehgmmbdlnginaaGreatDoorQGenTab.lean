/-
  Several texts in one: CodeC5,CodeC6,CodeFacts,CodeC7,CodeArg,CodeTab,GenTab.
-/
import Derived.Test.YtehgmmbdlnginaaGreatDoorQCodeAr
import Derived.Test.YtehgmmbdlnginaaGreatDoorQCodePlain
import Derived.Lib.LaidTab
import Derived.ChangeSame
import Derived.Deep.Slices
namespace Go.Proofs.YtehgmmbdlnginaaGreatDoor
open Go.RowKit
set_option linter.unusedVariables false
namespace KW
open KP
set_option maxHeartbeats 8000000 in
set_option maxRecDepth 20000 in
theorem may_any (n d:Int) (x:Ki) (hx:Wf x) (mb:Nat) (w:World) (hT:FT w) (hM:MapI w mb arity) :
    Calls Tryz.prog 48 #[.agg #[num n,.map (some mb)],val x,num d] w fun e w'=>e = .returned (.bool (may n x d))∧MM.Far [] w w':=by
  obtain ⟨R,hR⟩:∃ R,may n x d=R:=⟨_,rfl⟩
  rw [hR];unfold may at hR;have HR:=Lib.hid hR;have HW:Hid (whole x=(decide (1≤x.op) && (decide (x.op≤16) && (!others x && (decide (0≤x.a) && (decide (0≤x.b) && const x.w)))))):=Lib.hid rfl;have HFi:Hid (fits n x d=if x.op=10 then decide (0 < x.a) && decide (x.a < n) else if x.op=11 then arity x.a == some x.b else if x.op=13∨x.op=15∨x.op=16 then d == pops x else true):=Lib.hid rfl;have HO:=Lib.hid (fun k (h1:x.op=((k:Nat):Int)) (h2:k < 17) W (h:FT W)=>others_any x k h1 h2 W h);have HC:=Lib.hid (fun W=>const_any x.w hx.w W);have HP:=Lib.hid (fun W=>pops_any x W);have hop0:=hx.op0;obtain ⟨op,a,b,v⟩:=x;simp only at HW HFi HO HC hop0
  generalize others ⟨op,a,b,v⟩=ot at *;generalize pops ⟨op,a,b,v⟩=pp at *;generalize whole ⟨op,a,b,v⟩=wh at *;generalize fits n ⟨op,a,b,v⟩ d=fi at *;generalize const v=cn at *;show Calls Tryz.prog 48 #[.agg #[num n,.map (some mb)],.agg #[.int .u8 op,.int .i64 a,.int .i64 b,.int .u64 v],num d] w _
  have FA:=((MM.Far.refl [] w).alloc (.cells #[num n,.map (some mb)] 69)).alloc (.cells #[.int .u8 op,.int .i64 a,.int .i64 b,.int .u64 v] 44);have HF1:=Lib.hid FA;have HT1:=Lib.hid (hT.far FA);have HM1:=Lib.hid (hM.far FA (by simp));have HB1:=Lib.hid ((MM.Row.new w 69 [num n,.map (some mb)]).alloc (.cells #[.int .u8 op,.int .i64 a,.int .i64 b,.int .u64 v] 44));have hb2:=MM.Row.new (w.alloc (.cells #[num n,.map (some mb)] 69)) 44 [.int .u8 op,.int .i64 a,.int .i64 b,.int .u64 v];rw [World.size_alloc] at hb2;have HB2:=Lib.hid hb2;clear hR hT hM hx FA hb2;go_enter Tryz.func48,Tryz.ntmps48
  go_upto_region 1 with (fail)
  generalize hw1:(w.alloc (.cells #[num n,.map (some mb)] 69)).alloc (.cells #[.int .u8 op,.int .i64 a,.int .i64 b,.int .u64 v] 44)=w1 at *;have HB1':Hid (MM.Row w1 w.heap.size 69 [num n,.map (some mb)]):=HB1;have HB2':Hid (MM.Row w1 (w.heap.size+1) 44 [.int .u8 op,.int .i64 a,.int .i64 b,.int .u64 v]):=HB2;clear hw1 HB1 HB2;have x0:w1.cell? ⟨w.heap.size+1,0,none⟩=some (.int .u8 op):=HB2'.out.at (i:=0) rfl;have x1:w1.cell? ⟨w.heap.size+1,1,none⟩=some (.int .i64 a):=HB2'.out.at (i:=1) rfl;have x2:w1.cell? ⟨w.heap.size+1,2,none⟩=some (.int .i64 b):=HB2'.out.at (i:=2) rfl;have x3:w1.cell? ⟨w.heap.size+1,3,none⟩=some (.int .u64 v):=HB2'.out.at (i:=3) rfl;by_cases h1:op < 1
  · obtain rfl:R=false:=by rw [← HR.out,HW.out,decide_eq_false (by omega)];rfl
    go_wp2_with (fail)
    go_ret
    exact ⟨rfl,HF1.out⟩
  by_cases h2:16 < op
  · obtain rfl:R=false:=by rw [← HR.out,HW.out,decide_eq_false (p:=op≤16) (by omega),Bool.false_and,Bool.and_false];rfl
    go_wp2_with (fail)
    go_ret
    exact ⟨rfl,HF1.out⟩
  obtain ⟨k,rfl⟩:∃ k:Nat,op=k:=⟨op.toNat,by omega⟩
  have HO2:=Lib.hid (HO.out k rfl (by omega) w1 HT1.out);clear HO;have HR2:Hid (((!ot && (decide (0≤a) && (decide (0≤b) && cn))) && fi)=R):=Lib.hid (by rw [← HR.out,HW.out,decide_eq_true (p:=(1:Int)≤k) (by omega),decide_eq_true (p:=(k:Int)≤16) (by omega),Bool.true_and,Bool.true_and]);clear HR HW;cases ot with
  | true =>
    obtain rfl:R=false:=HR2.out.symm
    go_wp2_with (first
      | (go_at_call 92
         refine HO2.out.mono ?_
         rintro e w3 ⟨rfl,hF3⟩))
    go_ret
    exact ⟨rfl,HF1.out.trans hF3 (by simp)⟩
  | false =>
    by_cases ha:a < 0
    · obtain rfl:R=false:=by rw [← HR2.out,decide_eq_false (p:=(0:Int)≤a) (by omega)];rfl
      go_wp2_with (first
        | (go_at_call 92
           refine HO2.out.mono ?_
           rintro e w3 ⟨rfl,hF3⟩;have hB3:=HB2'.out.far hF3 (by simp);have y1:w3.cell? ⟨w.heap.size+1,1,none⟩=some (.int .i64 a):=hB3.at (i:=1) rfl))
      go_ret
      exact ⟨rfl,HF1.out.trans hF3 (by simp)⟩
    by_cases hb:b < 0
    · obtain rfl:R=false:=by rw [← HR2.out,decide_eq_false (p:=(0:Int)≤b) (by omega),Bool.false_and,Bool.and_false];rfl
      go_wp2_with (first
        | (go_at_call 92
           refine HO2.out.mono ?_
           rintro e w3 ⟨rfl,hF3⟩;have hB3:=HB2'.out.far hF3 (by simp);have y1:w3.cell? ⟨w.heap.size+1,1,none⟩=some (.int .i64 a):=hB3.at (i:=1) rfl;have y2:w3.cell? ⟨w.heap.size+1,2,none⟩=some (.int .i64 b):=hB3.at (i:=2) rfl))
      go_ret
      exact ⟨rfl,HF1.out.trans hF3 (by simp)⟩
    have HR3:Hid ((cn && fi)=R):=Lib.hid (by rw [← HR2.out,decide_eq_true (p:=(0:Int)≤a) (by omega),decide_eq_true (p:=(0:Int)≤b) (by omega)];simp);clear HR2;cases cn with
    | false =>
      obtain rfl:R=false:=HR3.out.symm
      go_wp2_with (first
        | (go_at_call 92
           refine HO2.out.mono ?_
           rintro e w3 ⟨rfl,hF3⟩;have hB3:=HB2'.out.far hF3 (by simp);have y0:w3.cell? ⟨w.heap.size+1,0,none⟩=some (.int .u8 k):=hB3.at (i:=0) rfl;have y1:w3.cell? ⟨w.heap.size+1,1,none⟩=some (.int .i64 a):=hB3.at (i:=1) rfl;have y2:w3.cell? ⟨w.heap.size+1,2,none⟩=some (.int .i64 b):=hB3.at (i:=2) rfl;have y3:w3.cell? ⟨w.heap.size+1,3,none⟩=some (.int .u64 v):=hB3.at (i:=3) rfl;have hC3:=HB1'.out.far hF3 (by simp);have z0:w3.cell? ⟨w.heap.size,0,none⟩=some (num n):=hC3.at (i:=0) rfl;have z1:w3.cell? ⟨w.heap.size,1,none⟩=some (.map (some mb)):=hC3.at (i:=1) rfl;have HM3:=Lib.hid (HM1.out.far hF3 (by simp));have HF3:=Lib.hid (HF1.out.trans hF3 (by simp));clear hF3 hB3 hC3)
        | (go_at_call 93
           refine (HC.out _).mono ?_
           rintro e w4 ⟨rfl,rfl⟩))
      go_ret
      exact ⟨rfl,HF3.out⟩
    | true =>
      obtain rfl:fi=R:=HR3.out
      go_upto_if 36 with (first
        | (go_at_call 92
           refine HO2.out.mono ?_
           rintro e w3 ⟨rfl,hF3⟩;have hB3:=HB2'.out.far hF3 (by simp);have y0:w3.cell? ⟨w.heap.size+1,0,none⟩=some (.int .u8 k):=hB3.at (i:=0) rfl;have y1:w3.cell? ⟨w.heap.size+1,1,none⟩=some (.int .i64 a):=hB3.at (i:=1) rfl;have y2:w3.cell? ⟨w.heap.size+1,2,none⟩=some (.int .i64 b):=hB3.at (i:=2) rfl;have y3:w3.cell? ⟨w.heap.size+1,3,none⟩=some (.int .u64 v):=hB3.at (i:=3) rfl;have hC3:=HB1'.out.far hF3 (by simp);have z0:w3.cell? ⟨w.heap.size,0,none⟩=some (num n):=hC3.at (i:=0) rfl;have z1:w3.cell? ⟨w.heap.size,1,none⟩=some (.map (some mb)):=hC3.at (i:=1) rfl;have HM3:=Lib.hid (HM1.out.far hF3 (by simp));have HF3:=Lib.hid (HF1.out.trans hF3 (by simp));clear hF3 hB3 hC3)
        | (go_at_call 93
           refine (HC.out _).mono ?_
           rintro e w4 ⟨rfl,rfl⟩))
      clear HR3 x0 x1 x2 x3;by_cases h10:k=10
      · subst h10;have HFi2:Hid (fi=(decide (0 < a) && decide (a < n))):=Lib.hid (by have:=HFi.out;rw [if_pos (show ((10:Nat):Int)=10 from rfl)] at this;exact this);clear HFi;by_cases ha1:0 < a
        · go_wp2_with (fail)
          go_ret
          refine ⟨?_,HF3.out⟩
          rw [HFi2.out,decide_eq_true ha1];rfl
        · go_wp2_with (fail)
          go_ret
          refine ⟨?_,HF3.out⟩
          rw [HFi2.out,decide_eq_false (p:=0 < a) (by omega)];rfl
      by_cases h11:k=11
      · subst h11;have HFi2:Hid (fi=(arity a == some b)):=Lib.hid (by have:=HFi.out;rw [if_neg (show ¬ ((11:Nat):Int)=10 by decide),if_pos (show ((11:Nat):Int)=11 from rfl)] at this;exact this);clear HFi;have hlk:=HM3.out.look a;cases hq:arity a with
        | none =>
          rw [hq] at hlk HFi2;clear hq
          go_wp2_with (fail)
          go_ret
          refine ⟨?_,HF3.out⟩
          rw [HFi2.out];rfl
        | some m =>
          rw [hq] at hlk HFi2;clear hq
          go_wp2_with (fail)
          go_ret
          refine ⟨?_,HF3.out⟩
          rw [HFi2.out];by_cases e:b=m
          · subst e;simp
          · have e1:(b == m)=false:=by simpa using e
            have e2:(m == b)=false:=by simpa using Ne.symm e
            show Ending.returned (.bool (b == m)) = .returned (.bool (m == b))
            rw [e1,e2]
      have e10:((k:Int) == 10)=false:=by simp;omega
      have e11:((k:Int) == 11)=false:=by simp;omega
      by_cases h13:(k:Int)=13∨(k:Int)=15∨(k:Int)=16
      · have HFi2:Hid (fi=(d == pp)):=Lib.hid (by have:=HFi.out;rw [if_neg (by omega),if_neg (by omega),if_pos h13] at this;exact this);clear HFi
        rcases (show k=13∨k=15∨k=16 by omega) with rfl | rfl | rfl
        all_goals
          go_wp2_with (first
            | (go_at_call 94
               refine (HP.out _).mono ?_
               rintro e w5 ⟨rfl,rfl⟩))
          go_ret
          refine ⟨?_,HF3.out.alloc _⟩
          rw [HFi2.out];rfl
      · have HFi2:Hid (fi=true):=Lib.hid (by have:=HFi.out;rw [if_neg (by omega),if_neg (by omega),if_neg h13] at this;exact this);have e13:((k:Int) == 13)=false:=by simp;omega
        have e15:((k:Int) == 15)=false:=by simp;omega
        have e16:((k:Int) == 16)=false:=by simp;omega
        clear HFi
        go_wp2_with (fail)
        go_ret
        refine ⟨?_,HF3.out⟩
        rw [HFi2.out];rfl
end KW
end Go.Proofs.YtehgmmbdlnginaaGreatDoor
namespace Go.Proofs.YtehgmmbdlnginaaGreatDoor
open Go.RowKit
set_option linter.unusedVariables false
namespace KW
open KP
theorem far_d {A B W V:World} (h:MM.Far [] A B) (k:MM.Far [] W V) (e:W=B∨W=B.drew):MM.Far [] A V:=by
  rcases e with rfl | rfl
  · exact h.trans k (by simp)
  · exact (h.trans ((MM.Far.refl [] B).drew) (by simp)).trans k (by simp)
theorem far7 {W V:World} (f:MM.Far [] W V) {b0 bx g k:Nat} {v0 v1 u0 u1 u2 u3 d0:Value} (h:W.cell? ⟨b0,0,none⟩=some v0∧W.cell? ⟨b0,1,none⟩=some v1∧W.cell? ⟨bx,0,none⟩=some u0∧W.cell? ⟨bx,1,none⟩=some u1∧W.cell? ⟨bx,2,none⟩=some u2∧W.cell? ⟨bx,3,none⟩=some u3∧W.cell? ⟨g,k,none⟩=some d0) (h0:b0 < W.heap.size) (h1:bx < W.heap.size) (h2:g < W.heap.size) :
    V.cell? ⟨b0,0,none⟩=some v0∧V.cell? ⟨b0,1,none⟩=some v1∧V.cell? ⟨bx,0,none⟩=some u0∧V.cell? ⟨bx,1,none⟩=some u1∧V.cell? ⟨bx,2,none⟩=some u2∧V.cell? ⟨bx,3,none⟩=some u3∧V.cell? ⟨g,k,none⟩=some d0:=by
  have c:∀ b j,b < W.heap.size→V.cell? ⟨b,j,none⟩=W.cell? ⟨b,j,none⟩:=fun b j hb=>f.cell (p:=⟨b,j,none⟩) hb (by simp)
  rw [c b0 0 h0,c b0 1 h0,c bx 0 h1,c bx 1 h1,c bx 2 h1,c bx 3 h1,c g k h2];exact h
def WrQ (R:Option Nat) (w:World) (e:Ending) (w':World):Prop:=e = .returned (.tuple #[num ((R.getD 0:Nat):Int),.bool R.isSome])∧MM.Far [] w w'
set_option maxHeartbeats 8000000 in
set_option maxRecDepth 20000 in
theorem wrong_any (n most:Int) (bk:Kb) (m:Nat) (hm:bk.l.length=m) (h9:m < 1000000000) (hx:∀ x∈bk.l,Wf x) (A:Option Addr) (c mb:Nat) (w:World) (hT:FT w) (hM:MapI w mb arity) (hI:Ir w [] A bk.l) :
    Calls Tryz.prog 26 #[.agg #[num n,.map (some mb)],.agg #[num bk.many,.slice A m c],num most] w (WrQ (wrongAt n bk most) w):=by
  obtain ⟨R,hR⟩:∃ R,wrongAt n bk most=R:=⟨_,rfl⟩
  rw [hR];unfold KP.wrongAt at hR;obtain ⟨many,l⟩:=bk;simp only at hR hm hx hI
  have HR:=Lib.hid hR;have HM:=Lib.hid hm;have HX:=Lib.hid hx;have FA:=((MM.Far.refl [] w).alloc (.cells #[num n,.map (some mb)] 69)).alloc (.cells #[num many,.slice A m c] 42);have HF1:=Lib.hid FA;have HT1:=Lib.hid (hT.far FA);have HM1:=Lib.hid (hM.far FA (by simp));have HI1:=Lib.hid (hI.far FA (by simp));have HB1:=Lib.hid ((MM.Row.new w 69 [num n,.map (some mb)]).alloc (.cells #[num many,.slice A m c] 42));have hb2:=MM.Row.new (w.alloc (.cells #[num n,.map (some mb)] 69)) 42 [num many,.slice A m c];rw [World.size_alloc] at hb2;have HB2:=Lib.hid hb2;clear hR hT hM hx FA hb2 hm hI;show Calls Tryz.prog 26 #[.agg #[num n,.map (some mb)],.agg #[num many,.slice A m c],num most] w _
  go_enter Tryz.func26,Tryz.ntmps26
  by_cases h1:many < 0
  · obtain rfl:R=some 0:=by have:=HR.out;rw [if_pos h1] at this;exact this.symm
    go_wp2_with (fail)
    go_ret2
    exact ⟨rfl,HF1.out⟩
  by_cases h2:most < many
  · obtain rfl:R=some 0:=by have:=HR.out;rw [if_neg h1,if_pos h2] at this;exact this.symm
    go_wp2_with (fail)
    go_ret2
    exact ⟨rfl,HF1.out⟩
  have hR2:=HR.out;rw [if_neg h1,if_neg h2] at hR2;have HD:=Lib.hid (fun W (h:Ir W [] A l)=>depth_any l m HM.out h9 many A c W h);have HDG:Hid (∀ d,depth l=some d→d.length=l.length):=Lib.hid (fun d h=>(depth_good h).1);generalize depth l=D at *;clear HR;cases D with
  | none =>
    obtain rfl:R=some 0:=hR2.symm
    go_wp2_with (first
      | (go_at_call 46
         refine (HD.out _ HI1.out).mono ?_
         rintro e w2 ⟨v,rfl,hF2,hv,-⟩;obtain rfl:=hv rfl))
    go_ret2
    exact ⟨rfl,HF1.out.trans hF2 (by simp)⟩
  | some d =>
    simp only at hR2
    have HDL:=Lib.hid (HDG.out d rfl);have HR2:=Lib.hid hR2;clear hR2 HDG
    go_upto_region 4 with (first
      | (go_at_call 46
         refine (HD.out _ HI1.out).mono ?_
         rintro e w2 ⟨v,rfl,hF2,-,hv⟩;obtain ⟨g,rfl,hr2,hg2⟩:=hv d rfl;have HR2':=Lib.hid hr2;have HB1':=Lib.hid (HB1.out.far hF2 (by simp));have HB2':=Lib.hid (HB2.out.far hF2 (by simp));have HT2:=Lib.hid (HT1.out.far hF2);have HM2:=Lib.hid (HM1.out.far hF2 (by simp));have HI2:=Lib.hid (HI1.out.far hF2 (by simp));have HF2:=Lib.hid (HF1.out.trans hF2 (by simp));have x1:w2.cell? ⟨w.heap.size+1,1,none⟩=some (.slice A m c):=HB2'.out.at (i:=1) rfl;clear hr2 hF2 hv hg2))
    obtain ⟨dm,hdm⟩:∃ dm,d.length=dm:=⟨_,rfl⟩
    have HDM:=Lib.hid hdm;have hdmm:dm=m:=by rw [← hdm,HDL.out,HM.out]
    rw [hdm];subst hdmm;clear hdm;have HCo:=Lib.hid (fun W (h:MM.Row W g 3 (ints d))=>contains_any d dm HDM.out h9 (-1) g dm W h);cases hc:d.contains (-1) with
    | true =>
      rw [hc] at HCo;obtain rfl:R=some 0:=by have:=HR2.out;rw [if_pos hc] at this;exact this.symm
      clear hc
      go_wp2_with (first
        | (go_at_call 47
           refine (HCo.out _ HR2'.out).mono ?_
           rintro e w3 ⟨rfl,rfl⟩))
      go_ret2
      exact ⟨rfl,HF2.out⟩
    | false =>
      rw [hc] at HCo;have HR3:Hid (firstBad n l d 0=R):=Lib.hid (by have:=HR2.out;rw [hc] at this;exact this);clear hc HR2
      go_wp2_with (first
        | (go_at_call 47
           refine (HCo.out _ HR2'.out).mono ?_
           rintro e w3 ⟨rfl,rfl⟩))
      have F0:Hid (MM.Far [] w2 w2):=Lib.hid (MM.Far.refl _ _);have HR0:Hid (firstBad n (l.drop 0) (d.drop 0) 0=R):=HR3;clear HCo HR3 x1
      go_loopw [35] (fun s35 wr=>∃ k:Nat,k≤dm∧s35=num k∧Hid (MM.Far [] w2 wr)∧Hid (firstBad n (l.drop k) (d.drop k) k=R)) (fun s35 _=>dm - (intOf s35).toNat)
      case atStart=>exact ⟨0,by omega,rfl,F0,HR0⟩
      case round =>
        obtain ⟨k,hk,rfl,HFr,HE⟩:=hrel;by_cases hlt:k < dm
        · have hkl:k < l.length:=by rw [HM.out];exact hlt
          have hkd:k < d.length:=by rw [HDM.out];exact hlt
          obtain ⟨b,o,rfl,-,hb,c0,c1,c2,c3⟩:=(HI2.out.far HFr.out (by simp)).at hkl;have hE:=HE.out;rw [List.drop_eq_getElem_cons hkl,List.drop_eq_getElem_cons hkd] at hE;have hwf:=HX.out _ (List.getElem_mem hkl);have hdk:wr.cell? ⟨g,k,none⟩=some (num d[k]):=(HR2'.out.far HFr.out (by simp)).at (by simp [ints,hkd]);generalize l[k]=x at *;generalize d[k]=q at *;unfold KP.firstBad at hE;have HB:=HB1'.out.far HFr.out (by simp);have y0:wr.cell? ⟨w.heap.size,0,none⟩=some (num n):=HB.at (i:=0) rfl;have y1:wr.cell? ⟨w.heap.size,1,none⟩=some (.map (some mb)):=HB.at (i:=1) rfl;have hy:=HB.lt;have hgr:=(HR2'.out.far HFr.out (by simp)).lt;have HMy:=Lib.hid (fun W (h1:FT W) (h2:MapI W mb arity)=>may_any n q x hwf mb W h1 h2);obtain ⟨op,xa,xb,xw⟩:=x;simp only at c0 c1 c2 c3
          generalize KP.may n ⟨op,xa,xb,xw⟩ q=ok at *;have HE2:=Lib.hid hE;have FW:=(MM.Far.refl [] wr).alloc (.cells #[.int .u8 op,.int .i64 xa,.int .i64 xb,.int .u64 xw] 44);have HTW:=Lib.hid (HT2.out.far (HFr.out.trans FW (by simp)));have HMW:=Lib.hid (HM2.out.far (HFr.out.trans FW (by simp)) (by simp));have HFW:=Lib.hid (HFr.out.trans FW (by simp));have HBX:=Lib.hid (MM.Row.new wr 44 [.int .u8 op,.int .i64 xa,.int .i64 xb,.int .u64 xw]);clear hE FW HB hkl hkd hwf
          go_upto_region 9 with (fail)
          obtain ⟨bx,hbx⟩:∃ bx,wr.heap.size=bx:=⟨_,rfl⟩
          have hsx:(wr.alloc (.cells #[.int .u8 op,.int .i64 xa,.int .i64 xb,.int .u64 xw] 44)).heap.size=bx+1:=by rw [World.size_alloc,hbx]
          rw [hbx] at HBX;have hyy0:(wr.alloc (.cells #[.int .u8 op,.int .i64 xa,.int .i64 xb,.int .u64 xw] 44)).cell? ⟨w.heap.size,0,none⟩=some (num n):=((MM.Far.refl [] wr).alloc _).cell (p:=⟨w.heap.size,0,none⟩) hy (by simp) |>.trans y0;have hyy1:(wr.alloc (.cells #[.int .u8 op,.int .i64 xa,.int .i64 xb,.int .u64 xw] 44)).cell? ⟨w.heap.size,1,none⟩=some (.map (some mb)):=((MM.Far.refl [] wr).alloc _).cell (p:=⟨w.heap.size,1,none⟩) hy (by simp) |>.trans y1;have hdd:(wr.alloc (.cells #[.int .u8 op,.int .i64 xa,.int .i64 xb,.int .u64 xw] 44)).cell? ⟨g,k,none⟩=some (num q):=((MM.Far.refl [] wr).alloc _).cell (p:=⟨g,k,none⟩) hgr (by simp) |>.trans hdk;rw [hbx];generalize wr.alloc (.cells #[.int .u8 op,.int .i64 xa,.int .i64 xb,.int .u64 xw] 44)=wx at *;have xx0:wx.cell? ⟨bx,0,none⟩=some (.int .u8 op):=HBX.out.at (i:=0) rfl;have xx1:wx.cell? ⟨bx,1,none⟩=some (.int .i64 xa):=HBX.out.at (i:=1) rfl;have xx2:wx.cell? ⟨bx,2,none⟩=some (.int .i64 xb):=HBX.out.at (i:=2) rfl;have xx3:wx.cell? ⟨bx,3,none⟩=some (.int .u64 xw):=HBX.out.at (i:=3) rfl;have hlt1:w.heap.size < bx:=by omega
          have hlt2:g < bx:=by omega
          clear y0 y1 hdk c0 c1 c2 c3 hbx hb HBX;cases ok with
          | true =>
            have HE3:Hid (firstBad n (l.drop (k+1)) (d.drop (k+1)) (k+1)=R):=Lib.hid (by have:=HE2.out;rw [if_pos rfl] at this;exact this);clear HE2
            go_region_held3 (fun w'=>w'.cell? ⟨w.heap.size,0,none⟩=some (num n)∧w'.cell? ⟨w.heap.size,1,none⟩=some (.map (some mb))∧w'.cell? ⟨bx,0,none⟩=some (.int .u8 op)∧w'.cell? ⟨bx,1,none⟩=some (.int .i64 xa)∧w'.cell? ⟨bx,2,none⟩=some (.int .i64 xb)∧w'.cell? ⟨bx,3,none⟩=some (.int .u64 xw)∧w'.cell? ⟨g,k,none⟩=some (num q)) (first | (with_reducible assumption) | go_keep) (first
              | (go_at_call 48
                 (with_reducible refine (HMy.out _ (by first | exact HTW.out | exact HTW.out.far ((MM.Far.refl [] _).drew)) (by first | exact HMW.out | exact HMW.out.far ((MM.Far.refl [] _).drew) (by simp))).mono ?_)
                 rintro e w5 ⟨rfl,hF5⟩;have hS5:w5.cell? ⟨w.heap.size,0,none⟩=some (num n)∧w5.cell? ⟨w.heap.size,1,none⟩=some (.map (some mb))∧w5.cell? ⟨bx,0,none⟩=some (.int .u8 op)∧w5.cell? ⟨bx,1,none⟩=some (.int .i64 xa)∧w5.cell? ⟨bx,2,none⟩=some (.int .i64 xb)∧w5.cell? ⟨bx,3,none⟩=some (.int .u64 xw)∧w5.cell? ⟨g,k,none⟩=some (num q):=far7 (by first | exact hF5 | exact hF5) (by first | assumption | exact hHeld) (by show _ < wx.heap.size;omega) (by show _ < wx.heap.size;omega) (by show _ < wx.heap.size;omega);have HF5:=Lib.hid (far_d HFW.out hF5 (by first | exact .inl rfl | exact .inr rfl));clear hF5))
            all_goals
              go_wp2_with (fail)
              go_roundw
              case rel=>exact ⟨k+1,by omega,by go_num,HF5,HE3⟩
              case measure=>simp [intOf];omega
          | false =>
            obtain rfl:R=some k:=by have:=HE2.out;rw [if_neg (by simp)] at this;exact this.symm
            clear HE2
            go_region_held3 (fun w'=>w'.cell? ⟨w.heap.size,0,none⟩=some (num n)∧w'.cell? ⟨w.heap.size,1,none⟩=some (.map (some mb))∧w'.cell? ⟨bx,0,none⟩=some (.int .u8 op)∧w'.cell? ⟨bx,1,none⟩=some (.int .i64 xa)∧w'.cell? ⟨bx,2,none⟩=some (.int .i64 xb)∧w'.cell? ⟨bx,3,none⟩=some (.int .u64 xw)∧w'.cell? ⟨g,k,none⟩=some (num q)) (first | (with_reducible assumption) | go_keep) (first
              | (go_at_call 48
                 (with_reducible refine (HMy.out _ (by first | exact HTW.out | exact HTW.out.far ((MM.Far.refl [] _).drew)) (by first | exact HMW.out | exact HMW.out.far ((MM.Far.refl [] _).drew) (by simp))).mono ?_)
                 rintro e w5 ⟨rfl,hF5⟩;have hS5:w5.cell? ⟨w.heap.size,0,none⟩=some (num n)∧w5.cell? ⟨w.heap.size,1,none⟩=some (.map (some mb))∧w5.cell? ⟨bx,0,none⟩=some (.int .u8 op)∧w5.cell? ⟨bx,1,none⟩=some (.int .i64 xa)∧w5.cell? ⟨bx,2,none⟩=some (.int .i64 xb)∧w5.cell? ⟨bx,3,none⟩=some (.int .u64 xw)∧w5.cell? ⟨g,k,none⟩=some (num q):=far7 (by first | exact hF5 | exact hF5) (by first | assumption | exact hHeld) (by show _ < wx.heap.size;omega) (by show _ < wx.heap.size;omega) (by show _ < wx.heap.size;omega);have HF5:=Lib.hid (far_d HFW.out hF5 (by first | exact .inl rfl | exact .inr rfl));clear hF5))
            all_goals
              go_wp2_with (fail)
              go_ret2
              exact ⟨rfl,HF2.out.trans HF5.out (by simp)⟩
        · obtain rfl:k=dm:=by omega
          obtain rfl:R=none:=by
            have:=HE.out;rw [List.drop_eq_nil_of_le (by rw [HM.out];omega)] at this;rw [← this];rfl
          go_wp2_with (fail)
          go_ret2
          exact ⟨rfl,HF2.out.trans HFr.out (by simp)⟩
end KW
end Go.Proofs.YtehgmmbdlnginaaGreatDoor
namespace Go.Proofs.YtehgmmbdlnginaaGreatDoor
namespace KP
theorem wrong_none {n:Int} {b:Kb} {most:Int}:wrongAt n b most=none ↔ 0≤b.many∧b.many≤most∧∃ d,depth b.l=some d∧d.contains (-1)=false∧∀ (k:Nat) (x:Ki),b.l[k]? = some x→may n x (at_ d k)=true:=by
  unfold wrongAt;by_cases h1:b.many < 0
  · rw [if_pos h1];simp;omega
  rw [if_neg h1];by_cases h2:most < b.many
  · rw [if_pos h2];simp;omega
  rw [if_neg h2];cases hd:depth b.l with
  | none=>simp
  | some d =>
    have hl:=(depth_good hd).1;by_cases h3:d.contains (-1)=true
    · simp only [h3,if_true]
      constructor
      · intro h;cases h
      · rintro ⟨_,_,d',e,h4,_⟩;injection e with e;subst e;rw [h3] at h4;cases h4
    · have h3':d.contains (-1)=false:=by simpa using h3
      simp only [h3',Bool.false_eq_true,if_false]
      rw [firstBad_none b.l d 0 hl.symm];constructor
      · intro h;exact ⟨by omega,by omega,d,rfl,h3',h⟩
      · rintro ⟨_,_,d',e,_,h⟩;injection e with e;subst e;exact h
def mst (k:Nat) (most:Int):Int:=if k=0 then most else 100
theorem checkL_ok {n:Int}:∀ (l:List Kb) (i:Nat) (most:Int),(∀ (k:Nat) (b:Kb),l[k]? = some b→wrongAt n b (mst k most)=none)→checkL n l i most=(0,0,0):=by
  intro l;induction l with
  | nil=>intro i most _;rfl
  | cons b r ih =>
    intro i most h;unfold checkL;have h0:=h 0 b rfl;simp only [mst,if_true] at h0
    rw [h0];exact ih (i+1) 100 fun k c hc=>by
      have:=h (k+1) c (by simpa using hc);simp only [mst,Nat.succ_ne_zero,if_false] at this ⊢
      split <;> exact this
theorem check_cons {l:List Kb} (h:l≠[]):check l=checkL l.length l 0 0:=by unfold check;rw [if_neg h]
theorem whole_iff {x:Ki}:whole x=true ↔ 1≤x.op∧x.op≤16∧others x=false∧0≤x.a∧0≤x.b∧const x.w=true:=by simp [whole]
end KP
end Go.Proofs.YtehgmmbdlnginaaGreatDoor
namespace Go.Proofs.YtehgmmbdlnginaaGreatDoor
open Go.RowKit
set_option linter.unusedVariables false
namespace KW
open KP
structure TT (w:World):Prop where
  ft:FT w
  at_:AT w
  pt:PT w
theorem TT.far {w w':World} (h:TT w) (f:MM.Far [] w w'):TT w':=⟨h.ft.far f,h.at_.far f,h.pt.far f⟩
def ChQ (R:Int × Int × Int) (w:World) (e:Ending) (w':World):Prop:=e = .returned (.tuple #[num R.1,num R.2.1,num R.2.2])∧MM.Far [] w w'
structure Wb (b:Kb):Prop where
  len:b.l.length < 1000000000
  wf:∀ x∈b.l,Wf x
theorem Br.at {w:World} {S:List Nat} {A:Option Addr} {l:List Kb} (h:Br w S A l) {i:Nat} (hi:i < l.length):∃ b o A' c,A=some ⟨b,o,none⟩∧b∉S∧b < w.heap.size∧w.cell? ⟨b,o+i*2,none⟩=some (num l[i].many)∧w.cell? ⟨b,o+i*2+1,none⟩=some (.slice A' l[i].l.length c)∧l[i].l.length≤c∧c≤maxLen∧Ir w S A' l[i].l :=
  h i _ (List.getElem?_eq_getElem hi)
set_option maxHeartbeats 8000000 in
set_option maxRecDepth 20000 in
theorem check_any (l:List Kb) (n:Nat) (hn:l.length=n) (h9:n < 1000000000) (hl:∀ b∈l,Wb b) (A:Option Addr) (c:Nat) (w:World) (hT:TT w) (hB:Br w [] A l) :
    Calls Tryz.prog 13 #[.slice A n c] w (ChQ (check l) w):=by
  obtain ⟨R,hR⟩:∃ R,check l=R:=⟨_,rfl⟩
  rw [hR];have HR:=Lib.hid hR;have HN:=Lib.hid hn;have HL:=Lib.hid hl;have HT:=Lib.hid hT;have HB:=Lib.hid hB;have HAr:=Lib.hid (arities_any w hT.at_ hT.pt);clear hR hn hl hT hB;go_enter Tryz.func13,Tryz.ntmps13
  by_cases h0:n=0
  · obtain rfl:l=[]:=List.length_eq_zero_iff.1 (HN.out.trans h0);obtain rfl:R=(0,0,1):=HR.out.symm;subst h0
    go_wp2_with (fail)
    go_ret3
    exact ⟨rfl,MM.Far.refl _ _⟩
  · have hn0:((n:Int) == 0)=false:=by simpa using h0
    have HR0:Hid (checkL n (l.drop 0) 0 (mst 0 0)=R):=Lib.hid (by
      have:=HR.out;rw [check_cons (fun h=>h0 (by rw [← HN.out,h];rfl)),HN.out] at this;exact this)
    clear HR
    go_wp2_with (first
      | (go_at_call 25
         refine HAr.out.mono ?_
         rintro e w1 ⟨mb,rfl,hM1,hmb,hF1⟩;have HM1:=Lib.hid hM1;have HF1:=Lib.hid hF1;clear hM1 hF1))
    have FC:=(MM.Far.refl [] w1).alloc (.cells #[num n,.map (some mb)] 69);have HM2:=Lib.hid (HM1.out.far FC (by simp));have HF2:=Lib.hid (HF1.out.trans FC (by simp));have HBC:=Lib.hid (MM.Row.new w1 69 [num n,.map (some mb)]);clear HM1 HF1 HAr FC;obtain ⟨bc,hbc⟩:∃ bc,w1.heap.size=bc:=⟨_,rfl⟩
    rw [hbc] at HBC;rw [hbc];generalize w1.alloc (.cells #[num n,.map (some mb)] 69)=w2 at *;clear hbc hmb;have F0:Hid (MM.Far [] w2 w2):=Lib.hid (MM.Far.refl _ _)
    go_loopw [6,20] (fun s6 s20 wr=>∃ k:Nat,k≤n∧s6=num (mst k 0)∧s20=num k∧Hid (MM.Far [] w2 wr)∧Hid (checkL n (l.drop k) k (mst k 0)=R)) (fun _ s20 _=>n - (intOf s20).toNat)
    case atStart=>exact ⟨0,by omega,rfl,rfl,F0,HR0⟩
    case round =>
      obtain ⟨k,hk,rfl,rfl,HFr,HE⟩:=hrel;by_cases hlt:k < n
      · have hkl:k < l.length:=by rw [HN.out];exact hlt
        obtain ⟨b,o,A',c',rfl,-,hb,c0,c1,k1,k2,hI⟩:=(HB.out.far (HF2.out.trans HFr.out (by simp)) (by simp)).at hkl;have hE:=HE.out;rw [List.drop_eq_getElem_cons hkl] at hE;have hwb:=HL.out _ (List.getElem_mem hkl);generalize l[k]=x at *;unfold KP.checkL at hE;have hmst:mst (k+1) 0=100:=rfl;have HMS:=Lib.hid hmst;have hB2:=HBC.out.far HFr.out (by simp);have y0:wr.cell? ⟨bc,0,none⟩=some (num n):=hB2.at (i:=0) rfl;have y1:wr.cell? ⟨bc,1,none⟩=some (.map (some mb)):=hB2.at (i:=1) rfl;have hbcl:=hB2.lt;obtain ⟨m,hm⟩:∃ m,x.l.length=m:=⟨_,rfl⟩
        rw [hm] at c1;have HWr:=Lib.hid (fun W (h1:FT W) (h2:MapI W mb arity) (h3:Ir W [] A' x.l)=>wrong_any n (mst k 0) x m hm (by rw [← hm];exact hwb.len) hwb.wf A' c' mb W h1 h2 h3);have HIr:=Lib.hid hI;have FW:=(MM.Far.refl [] wr).alloc (.cells #[num x.many,.slice A' m c'] 42);have HTW:=Lib.hid ((HT.out.far (HF2.out.trans HFr.out (by simp))).far FW);have HMW:=Lib.hid ((HM2.out.far HFr.out (by simp)).far FW (by simp));have HIW:=Lib.hid (hI.far FW (by simp));have HFW:=Lib.hid (HFr.out.trans FW (by simp));generalize KP.wrongAt n x (mst k 0)=wo at *;obtain ⟨ms,hms⟩:∃ ms,mst k 0=ms:=⟨_,rfl⟩
        rw [hms] at HWr ⊢;obtain ⟨many,xl⟩:=x;simp only at c0 c1 hm
        have HE2:=Lib.hid hE;clear hE hmst hms hm hI FW hB2 hwb hkl HE;cases wo with
        | some at' =>
          obtain rfl:R=((k:Int),(at':Int),110):=HE2.out.symm
          go_wp2_with (first
            | (go_at_call 26
               refine (HWr.out _ HTW.out.ft HMW.out HIW.out).mono ?_
               rintro e w5 ⟨rfl,hF5⟩))
          go_ret3
          exact ⟨rfl,(HF2.out.trans HFW.out (by simp)).trans hF5 (by simp)⟩
        | none =>
          have HE3:Hid (checkL n (l.drop (k+1)) (k+1) (mst (k+1) 0)=R):=Lib.hid HE2.out;clear HE2
          go_wp2_with (first
            | (go_at_call 26
               refine (HWr.out _ HTW.out.ft HMW.out HIW.out).mono ?_
               rintro e w5 ⟨rfl,hF5⟩;have HF5:=Lib.hid (HFW.out.trans hF5 (by simp));clear hF5))
          go_roundw
          case rel=>exact ⟨k+1,by omega,by rw [HMS.out],by go_num,HF5,HE3⟩
          case measure=>simp [intOf];omega
      · obtain rfl:k=n:=by omega
        obtain rfl:R=(0,0,0):=by
          have:=HE.out;rw [List.drop_eq_nil_of_le (by rw [HN.out];omega)] at this;rw [← this];rfl
        go_wp2_with (fail)
        go_ret3
        exact ⟨rfl,HF2.out.trans HFr.out (by simp)⟩
end KW
end Go.Proofs.YtehgmmbdlnginaaGreatDoor
namespace Go.Proofs.YtehgmmbdlnginaaGreatDoor
open Go.RowKit Go.ChangeShapes Go.WideShapes Go.Deep
set_option linter.unusedVariables false
namespace KW
open KP
structure Bq where
  many:Int
  A:Option Addr
  l:Nat
  c:Nat
  zs:List Ki
section
variable {H:Type} {enc:TypeId × Value→H} {w:World} {fuel:Nat}
end
def Bq.kb (t:Bq):Kb:=⟨t.many,t.zs⟩
end KW
end Go.Proofs.YtehgmmbdlnginaaGreatDoor
namespace Go.Proofs.YtehgmmbdlnginaaGreatDoor
open Go.RowKit
set_option linter.unusedVariables false
namespace KP
def spcT:List Int:=(List.range 256).map fun b=>spc (b:Nat)
end KP
namespace KW
open KP
def primL:List (ByteArray × Int):=(emp,0)::(primN.zip primM).map fun x=>(x.1,(x.2:Int))
theorem primC_eq:primC=primL.flatMap fun x=>[.string x.1,.int .i64 x.2]:=by kernel_rfl
def primD:DataW Unit:=.agg (primL.map fun x=>.agg [.lit (.string x.1.data.toList),.lit (.int .i64 x.2)])
theorem laid_at9 {P:Program} {w:World}:∀ (L:List (String × DataW Unit)) (ps:List MemPlace) (i:Nat) (n:String) (d:DataW Unit),DataW.LaidVars P w L ps→L[i]? = some (n,d) →
    ∃ g t cs fuel p,P.globalNamed n=some g∧(P.globals[g]?).map (·.type)=some t∧w.var? P n=some cs∧DataW.trod (fun _=>()) P w 0 (fun _=>true) false fuel t cs.toList=some (d,p):=by
  intro L;induction L with
  | nil=>intro ps i n d _ h;simp at h
  | cons x L ih =>
    intro ps i n d h hi;obtain ⟨m,e⟩:=x;obtain ⟨g,t,cs,fuel,p,q,h1,h2,h3,h4,h5,_⟩:=h;cases i with
    | zero =>
      simp only [List.getElem?_cons_zero,Option.some.injEq,Prod.mk.injEq] at hi
      obtain ⟨rfl,rfl⟩:=hi;exact ⟨g,t,cs,fuel,p,h1,h2,h3,h4⟩
    | succ i=>exact ih q i n d h5 (by simpa using hi)
theorem trod_arr {H:Type} {enc:TypeId × Value→H} {P:Program} {w:World} {base:Nat} {sp:Nat→Bool} {held:Bool} {fuel:Nat} {t e:TypeId} {n c:Nat} {cs:List Value} {ds:List (DataW H)} {p:List MemPlace}
    (ht:P.underlying t=some (.array n e)) (hce:P.cellsOf e=c) (hct:P.cellsOf t=n*c) (h:DataW.trod enc P w base sp held fuel t cs=some (.agg ds,p)) :
    cs.length=n*c∧∃ m,∀ i,i < n→∃ x,ds[i]? = some x.1∧DataW.trod enc P w base sp held m e ((cs.drop (i*c)).take c)=some x:=by
  cases fuel with
  | zero=>simp [DataW.trod] at h
  | succ fuel =>
    simp only [DataW.trod,ht,hce,hct] at h
    split at h
    · rename_i hl;obtain ⟨xs,hm,hx⟩:=Option.map_eq_some_iff.1 h;have hxs:xs.map (·.1)=ds:=by
        have:=congrArg Prod.fst hx;simpa using this
      refine ⟨by simpa using hl,fuel,fun i hi=>?_⟩
      obtain ⟨b,hb,hf⟩:=Lib.mapM_at hm i i (by simp [hi]);exact ⟨b,by rw [← hxs];simp [hb],hf⟩
    · cases h
theorem prim_type : (Tryz.prog.globals[(Tryz.prog.globalNamed "eddywheel/scope.primitives").getD 0]?).map (·.type) = some 158 := by kernel_rfl
theorem prim_eq {W:World} {cs:Array Value} {fuel:Nat} {p:List MemPlace} (h4:DataW.trod (fun _=>()) Tryz.prog W 0 (fun _=>true) false fuel 158 cs.toList=some (primD,p)):cs.toList=primC:=by
  obtain ⟨hl,m,hx⟩:=trod_arr (c:=2) Tryz.underlying158 (by kernel_rfl) (by kernel_rfl) h4;rw [primC_eq];apply List.ext_getElem?
  intro j;obtain ⟨k,r,rfl,hr⟩:∃ k r,j=k*2+r∧r < 2:=⟨j / 2,j % 2,by omega,by omega⟩
  by_cases hk:k < 31
  · obtain ⟨x,hd,hf⟩:=hx k hk;obtain ⟨y0,y1,n,rfl,hl2,g0,g1⟩:=Go.ChangeShapes.trod_struct2 Tryz.underlying157 hf;obtain ⟨s,e0,rfl,_⟩:=DataW.trod_string Tryz.underlying9 g0;obtain ⟨z,e1,rfl,_⟩:=DataW.trod_int Tryz.underlying3 g1;have hk2:k < primL.length:=hk;rw [List.getElem?_map,List.getElem?_eq_getElem hk2] at hd;simp only [Option.map_some,Option.some.injEq,DataW.agg.injEq,List.cons.injEq,DataW.lit.injEq,Lit.string.injEq,Lit.int.injEq,true_and,and_true] at hd
    obtain ⟨d1,d2⟩:=hd;have hs:s=primL[k].1:=by
      obtain ⟨⟨l⟩⟩:=s;generalize primL[k].1=q at d1;obtain ⟨⟨l2⟩⟩:=q;simp only at d1
      rw [d1]
    have f0:cs.toList[k*2]? = some (.string s):=by
      have:=congrArg (·[0]?) e0;have:0 < Tryz.prog.cellsOf 9∧cs[k*2]? = some (Value.string s):=by simpa [List.getElem?_take,List.getElem?_drop] using this
      simpa using this.2
    have f1:cs.toList[k*2+1]? = some (.int .i64 z):=by
      have:=congrArg (·[0]?) e1;have:0 < Tryz.prog.cellsOf 3∧cs[k*2+1]? = some (Value.int .i64 z):=by simpa [List.getElem?_take,List.getElem?_drop] using this
      simpa using this.2
    have key:∀ (l:List (ByteArray × Int)) (k:Nat) (hk:k < l.length) (r:Nat),r < 2→(l.flatMap fun x=>[Value.string x.1,.int .i64 x.2])[k*2+r]? = ([Value.string l[k].1,.int .i64 l[k].2]:List Value)[r]?:=by
      intro l;induction l with
      | nil=>intro k hk;simp at hk
      | cons x l ih =>
        intro k hk r hr;rw [List.flatMap_cons];cases k with
        | zero=>rw [Nat.zero_mul,Nat.zero_add,List.getElem?_append_left (by simp;omega)];rfl
        | succ k =>
          rw [List.getElem?_append_right (by simp;omega)];rw [show (k+1)*2+r - [Value.string x.1,Value.int IntKind.i64 x.2].length=k*2+r from by simp;omega];exact ih k (by simpa using hk) r hr
    rw [key primL k hk2 r hr,← hs,d2]
    match r,hr with
    | 0,_=>exact f0
    | 1,_=>exact f1
  · have hlen:(primL.flatMap fun x=>[Value.string x.1,.int .i64 x.2]).length=62:=by rw [← primC_eq];rfl
    rw [List.getElem?_eq_none (by omega),List.getElem?_eq_none (by omega)]
theorem ft_slice {W:World} {cell:Value} {fuel:Nat} {d:DataW Unit} {p:List MemPlace} {vs:List Int} (h:DataW.trod (fun _=>()) Tryz.prog W 0 (fun _=>true) false fuel 24 [cell]=some (d,p)) (hd:d = .slice (vs.map fun v=>.lit (.int .i64 v)) []∨(d = .nil∧vs=[])) :
    ∃ A c,cell = .slice A vs.length c∧vs.length≤c∧c≤maxLen∧∀ (j:Nat) (v:Int),vs[j]? = some v→∃ b o,A=some ⟨b,o,none⟩∧b < W.heap.size∧W.cell? ⟨b,o+j,none⟩=some (num v):=by
  rcases Go.Deep.open_slice1 Tryz.underlying24 (by kernel_rfl) h with ⟨e1,e2⟩ | ⟨a,len,cap,m,n,V,D,Pl,e1,_,hl,hm,hmm,e2,hx⟩
  · injection e2 with e2 _;subst e2
    rcases hd with hd | ⟨_,rfl⟩
    · cases hd
    · injection e1 with e1;exact ⟨none,0,e1,Nat.le_refl _,Nat.zero_le _,fun j v hj=>by simp at hj⟩
  · injection e2 with e2 _;subst e2
    rcases hd with hd | ⟨hd,_⟩
    · injection hd with hd _;injection e1 with e1;have hlen:len=vs.length:=by simpa using congrArg List.length hd
      refine ⟨some a,cap,by rw [← hlen];exact e1,by rw [← hlen];exact hl,hm,fun j v hj=>?_⟩
      have hjl:j < vs.length:=(List.getElem?_eq_some_iff.1 hj).1;obtain ⟨h1,h2⟩:=hx j (by simp at hmm;omega);have hD:D j = .lit (.int .i64 v):=by
        have:=congrArg (·[j]?) hd;simp only [List.getElem?_map,hj,Option.map_some] at this
        rw [List.getElem?_range (by omega)] at this;simpa using this
      obtain ⟨z,h3,h4,_⟩:=DataW.trod_int Tryz.underlying3 h2;have hz:z=v:=by
        have:=congrArg Prod.fst h4;simp only at this
        rw [hD] at this;injection this with this;injection this with _ this;exact this.symm
      have hV:V j=num v:=by
        injection h3 with h3;rw [h3,hz]
      rw [hV] at h1;obtain ⟨b,o,spot⟩:=a;have h0:0 < len:=by omega
      obtain rfl:spot=none:=by
        obtain ⟨h5,_⟩:=hx 0 (by simp at hmm;omega);have:=World.cell?_spot h5;unfold Addr.add at this;simpa using this
      have e3:(⟨b,o,none⟩:Addr).add j=⟨b,o+j,none⟩:=by
        unfold Addr.add;split
        · rename_i h;subst h;rfl
        · rfl
      rw [e3] at h1;refine ⟨b,o,rfl,MR.cell_lt h1,h1⟩
    · cases hd
def fieldD:DataW Unit:=.agg (.nil::(ownL.drop 1).map fun l=>.slice (l.map fun v=>.lit (.int .i64 v)) [])
theorem fields_type : (Tryz.prog.globals[(Tryz.prog.globalNamed "eddywheel/code.fields").getD 0]?).map (·.type) = some 191 := by kernel_rfl
theorem fields_named : Tryz.prog.globalNamed "eddywheel/code.fields" = some 3 := by kernel_rfl
theorem space_named : Tryz.prog.globalNamed "strings.asciiSpace" = some 0 := by kernel_rfl
theorem space_type : (Tryz.prog.globals[(Tryz.prog.globalNamed "strings.asciiSpace").getD 0]?).map (·.type) = some 153 := by kernel_rfl
theorem var_cell {w:World} {n:String} {g:Nat} {cs:Array Value} (hn:Tryz.prog.globalNamed n=some g) (h:w.var? Tryz.prog n=some cs):g < w.heap.size∧∀ i,w.cell? ⟨g,i,none⟩=cs[i]?:=by
  unfold World.var? at h;rw [hn] at h;simp only [Option.bind_some] at h
  split at h
  · rename_i c t fr e;injection h with h;subst h;exact ⟨(Array.getElem?_eq_some_iff.1 e).1,fun i=>by simp [World.cell?,e]⟩
  · cases h
end KW
end Go.Proofs.YtehgmmbdlnginaaGreatDoor
namespace Go.Proofs.YtehgmmbdlnginaaGreatDoor
open Go.RowKit
set_option linter.unusedVariables false
namespace KW
open KP
theorem tt_at {W : World} {L : List (String × DataW Unit)} (h : laidMetH Tryz.prog L W) (hH : (L.filter fun x => x.2.handleName?.isSome) = []) (i1 i2 i3 : Nat) (h1 : L[i1]? = some ("strings.asciiSpace", Lib.tabData .u8 spcT)) (h2 : L[i2]? = some ("eddywheel/scope.primitives", primD)) (h3 : L[i3]? = some ("eddywheel/code.fields", fieldD)) : TT W := by
  unfold laidMetH at h;rw [hH] at h;obtain ⟨ps,hv,_⟩:=h;refine ⟨?_,?_,?_⟩
  · obtain ⟨g,t,cs,fuel,p,q1,q2,q3,q4⟩:=laid_at9 _ _ _ _ _ hv h3;have ht:=fields_type;rw [q1] at ht;obtain rfl:=Option.some.inj (ht.symm.trans q2);obtain ⟨hlt,hcell⟩:=var_cell fields_named q3;obtain ⟨hl,m,hx⟩:=trod_arr (c:=1) Tryz.underlying191 (by kernel_rfl) (by kernel_rfl) q4;refine ⟨hlt,fun k hk=>?_⟩
    obtain ⟨x,hd,hf⟩:=hx k hk;have hkl:k < cs.toList.length:=by rw [hl];omega
    have e1:(cs.toList.drop (k*1)).take 1=[cs.toList[k]]:=by
      rw [Nat.mul_one,List.drop_eq_getElem_cons hkl];rfl
    rw [e1] at hf;have hdk:x.1 = .slice ((own k).map fun v=>.lit (.int .i64 v)) []∨(x.1 = .nil∧own k=[]):=by
      have key:∀ j:Nat,j < 17→((.nil:DataW Unit)::(ownL.drop 1).map fun l=>.slice (l.map fun v=>.lit (.int .i64 v)) [])[j]? = some (if j=0 then .nil else .slice ((own j).map fun v=>.lit (.int .i64 v)) []):=by
        intro j hj
        match j,hj with
        | 0,_=>rfl
        | 1,_=>rfl
        | 2,_=>rfl
        | 3,_=>rfl
        | 4,_=>rfl
        | 5,_=>rfl
        | 6,_=>rfl
        | 7,_=>rfl
        | 8,_=>rfl
        | 9,_=>rfl
        | 10,_=>rfl
        | 11,_=>rfl
        | 12,_=>rfl
        | 13,_=>rfl
        | 14,_=>rfl
        | 15,_=>rfl
        | 16,_=>rfl
        | j+17,h=>exact absurd h (by omega)
      rw [key k hk] at hd;injection hd with hd;by_cases h0:k=0
      · rw [if_pos h0] at hd;subst h0;exact .inr ⟨hd.symm,rfl⟩
      · rw [if_neg h0] at hd;exact .inl hd.symm
    obtain ⟨A,c,a1,a2,a3,a4⟩:=ft_slice hf hdk;refine ⟨A,c,?_,a2,a3,a4⟩
    rw [hcell k,← a1];rw [← Array.getElem?_toList,List.getElem?_eq_getElem hkl]
  · obtain ⟨g, t, cs, fuel, p, q1, q2, q3, q4⟩ := laid_at9 _ _ _ _ _ hv h1; have ht := space_type; rw [q1] at ht; obtain rfl := Option.some.inj (ht.symm.trans q2); have hT : Lib.TabIs Tryz.prog W "strings.asciiSpace" .u8 spcT := by
      unfold Lib.TabIs;rw [q3,← Lib.cells_of_tab Tryz.underlying153 Tryz.underlying5 (by kernel_rfl) (by kernel_rfl) q4]
    obtain ⟨hlt,hcell⟩:=var_cell space_named q3;refine ⟨hlt,fun b hb=>?_⟩
    have:=hT.cell space_named b (by simpa [spcT] using hb);rw [this];simp only [spcT,List.getD_eq_getElem?_getD,List.getElem?_map]
    rw [List.getElem?_range hb];rfl
  · obtain ⟨g,t,cs,fuel,p,q1,q2,q3,q4⟩:=laid_at9 _ _ _ _ _ hv h2;have ht:=prim_type;rw [q1] at ht;obtain rfl:=Option.some.inj (ht.symm.trans q2);unfold PT;rw [q3];rw [← prim_eq q4]
end KW
end Go.Proofs.YtehgmmbdlnginaaGreatDoor
