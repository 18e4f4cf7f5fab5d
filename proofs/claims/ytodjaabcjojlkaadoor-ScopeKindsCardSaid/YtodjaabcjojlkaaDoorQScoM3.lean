/-
  Several texts in one: ScoM2,ScoM3.
-/
import Derived.Test.YtodjaabcjojlkaaDoorQScoM1
import Derived.Test.YtodjaabcjojlkaaDoorQScoC17
import Derived.Deep.RegionHeld3
import Derived.Deep.LoopGhost
namespace Go.Proofs.YtodjaabcjojlkaaDoor
open Go.RowKit
set_option linter.unusedVariables false
namespace SM
open LX RW6 EX SC
open EW (Sl Bx ptr num strs sz_alloc)
open RX (Nd)
open RM6 (Kin)
theorem form_infoZ:(Tryd.prog.info? 33).map (fun i=>(i.zero,i.size,i.bytes))=some (some (.agg #[.int .u8 0,.int .i64 0,.int .i64 0,.int .i64 0,.string ⟨#[]⟩,.slice none 0 0,.int .u64 0,.slice none 0 0]),8,104):=by kernel_rfl
theorem forms_sliceZ:Tryd.prog.underlying 23=some (.slice 33):=by kernel_rfl
theorem own_sl4 (w0:World) {w:World} {e:TypeId} {size n:Nat} {v:Value} {xs:List Value} (h:w.ownsRow w0.heap.size e size v n xs):∃ A c,v = .slice A n c:=by
  obtain ⟨A,c,e,_⟩:=MO.form h;exact ⟨A,c,e⟩
def FinQ (w0 w:World) (Z:List Nat) (q g:Nat) (dv lv dm:Value) (own:ByteArray→Nat) (R:Rws) (N:List ByteArray) (rs:List (Rf × Value)) (tops:List Nat) (x:Rf × Value) (os:List Oq) (e:Ending) (w':World):Prop :=
  e = .returned (.tuple #[])∧MM.Far Z w w'∧∃ Z' Y' fv' tv' ov' os',Yto w Z Z'∧Sy w0 w' Z' Y' q g dv lv dm own R N fv' tv' ov' ov' (rs++[x]) (aftT rs.length os tops) os' []∧os'.map (·.o)=aftO rs.length os
section
variable {w0 w:World} {Z Y:List Nat} {q g:Nat} {dv lv dm:Value} {own:ByteArray→Nat} {R:Rws} {N:List ByteArray} {fv tv ov:Value} {rs:List (Rf × Value)} {tops:List Nat} {os:List Pz}
set_option maxHeartbeats 8000000 in
set_option maxRecDepth 20000 in
theorem finish_any {x:Pz} (h:Sy w0 w Z Y q g dv lv dm own R N fv tv ov ov rs tops (x::os) []) (h6:x.o.f.kind=6→∃ r R',R=r::R'∧x.o.f.n=(r.length:Nat)) (hn:rs.length+os.length≤1000000000) (ht:tops.length≤100000) (hl:∀ p∈os,p.o.f.l.length≤100000)
    (hR:R.length≤1000000000) (hB:(bnd R).length≤100000000000) :
    Calls Tryd.prog 53 #[ptr q,.agg #[.int .u8 x.o.f.kind,num x.o.f.at_,num x.o.f.n,num x.o.f.a,.string x.o.f.s,.slice none 0 0,.int .u64 x.o.f.w,x.lv]] w
      (FinQ w0 w Z q g dv lv dm own (popR x.o.f.kind R) N rs tops (x.o.f,x.lv) (os.map (·.o))):=by
  obtain ⟨og,oc,rfl,hc1,hc2,-,-,hog,hog0,hogZ⟩:=h.mc.open_at;have hD:=h.drop;obtain ⟨lA,lc,hlv⟩:∃ A c,x.lv = .slice A x.o.f.l.length c:=own_sl4 w0 (h.mc.kin.each (x.lv,x.o.f.l) (by simp [kinsZ]));obtain ⟨rA,rc,rfl⟩:=own_sl4 w0 h.mc.row;obtain ⟨⟨f,ps⟩,lv',av⟩:=x;simp only at hD hlv h6 ⊢
  subst hlv;obtain ⟨nl,hnl⟩:∃ nl,f.l.length=nl:=⟨_,rfl⟩
  rw [hnl];rw [hnl] at hD;obtain ⟨k,hk⟩:∃ k,w.heap.size=k:=⟨_,rfl⟩
  obtain ⟨OB,hOB⟩:∃ o:Obj,.cells #[.int .u8 f.kind,num f.at_,num f.n,num f.a,.string f.s,.slice none 0 0,.int .u64 f.w,.slice lA nl lc] 33=o:=⟨_,rfl⟩
  obtain ⟨W,hW⟩:∃ W,w.alloc OB=W:=⟨_,rfl⟩
  have F0:MM.Far [] w W:=by rw [← hW];exact (MM.Far.refl [] w).alloc OB
  have hD0:=hD.to F0;have BL:MM.Row W k 33 [.int .u8 f.kind,num f.at_,num f.n,num f.a,.string f.s,.slice none 0 0,.int .u64 f.w,.slice lA nl lc]:=by
    rw [← hW,← hOB];exact EW.row_new 33 _ hk
  have HF0:=Lib.hid F0;have HNL:=Lib.hid hnl;have HZlt:=Lib.hid hD.mc.z;have HYl:=Lib.hid hD.sc.ylt;have HK:=Lib.hid hk;have hoc:¬ oc=0:=by omega
  have hcI:(os.length:Int)≤(oc:Int):=by omega
  have hcI2:(0:Int)≤(os.length:Int):=by omega
  unfold maxLen at hc2;have z0:=BL.at (i:=0) rfl;have z2:=BL.at (i:=2) rfl;have HBL:=Lib.hid BL;have HD0:=Lib.hid hD0;by_cases k6:f.kind=6
  case' pos =>
    obtain ⟨r,R',rfl,hfn⟩:=h6 k6;have HLV:Hid (∀ w1,MM.Far [] W w1→Calls Tryd.prog 67 #[.pointer (some ⟨q,4,none⟩),num f.n] w1 fun e w'=>e = .returned (.tuple #[])∧ScQ w0 W Y q g ⟨dv,lv,dm,.slice rA rs.length rc,tv,.slice (some ⟨og,0,none⟩) (os.length+1) oc⟩ own R' N w'):=Lib.hid (fun w1 f1=>by
      have hbl:=(bnd_take r R').2;have:=leave_any (hD0.sc.to f1) (by rw [List.length_cons] at hR;omega) (by omega);rw [← hfn] at this;exact this.mono (fun e w' hq=>⟨hq.1,ScQ.from f1 hq.2⟩))
    have hpop:popR f.kind (r::R')=R':=by rw [k6];rfl
    rw [hpop];rw [k6] at z0;have HK6:=Lib.hid k6;clear h hD h6 hfn hD0 BL hpop k6 hnl hog hog0 hogZ hR hB F0;subst hW;subst hOB;subst hk;unfold num at *;unfold ptr at *;go_enter Tryd.func53,Tryd.ntmps53
    go_upto_region 1 with fail
    generalize w.alloc (.cells #[.int .u8 f.kind,.int .i64 f.at_,.int .i64 f.n,.int .i64 f.a,.string f.s,.slice none 0 0,.int .u64 f.w,.slice lA nl lc] 33)=W at *
    go_upto_region 2 with fail
    go_region_held3 (fun w'=>w'.cell? ⟨w.heap.size,2,none⟩=some (.int .i64 f.n)) (first | (with_reducible assumption) | go_keep) (first
      | (go_at_call 67;(with_reducible refine (HLV.out _ ((MM.Far.refl [] W).drew)).mono ?_);rintro e w1 ⟨rfl,Y1,hY1,hF1,hS1⟩;have hBL1:=HBL.out.far hF1 (fun hm=>by have:=HYl.out _ hm;omega);have hk1:=hBL1.at (i:=2) rfl;have HM1:=Lib.hid (HD0.out.eval hY1 hF1 hS1);have HF1:=Lib.hid ((HF0.out.mono (S':=Z) (by simp)).trans hF1 (fun b hb _=>HD0.out.mc.sub b hb));have HZ1:Hid (Yto w Z (Y1++Z)):=Lib.hid ⟨(evalZ HD0.out.mc hY1).sub,fun b hb=>((evalZ HD0.out.mc hY1).new b hb).imp id (fun h=>Nat.le_trans HF0.out.size h)⟩;have HBL1:=Lib.hid hBL1;obtain ⟨bv1,im1,hh1⟩:=HM1.out.head;have q7:=hh1.at (i:=7) rfl;clear hY1 hF1 hS1 hBL1 hh1))
    go_upto_region 4 with fail
    generalize Y1++Z=Z1 at *;clear HLV z0 z2 HBL HD0 HF0 HYl q7;obtain ⟨R1,rfl⟩:∃ R1,R1=R':=⟨_,rfl⟩
  case' neg =>
    have hpop:popR f.kind R=R:=pop_ne k6 R;rw [hpop];have k6b:(f.kind == 6)=false:=by simp [k6]
    obtain ⟨bv1,im1,hh1⟩:=hD0.head;have q7:=hh1.at (i:=7) rfl;clear h hD h6 hD0 BL hpop k6 hnl hog hog0 hogZ hR hB hh1;subst hW;subst hOB;subst hk;unfold num at *;unfold ptr at *;go_enter Tryd.func53,Tryd.ntmps53
    go_upto_region 1 with fail
    generalize w.alloc (.cells #[.int .u8 f.kind,.int .i64 f.at_,.int .i64 f.n,.int .i64 f.a,.string f.s,.slice none 0 0,.int .u64 f.w,.slice lA nl lc] 33)=w1 at *
    go_upto_region 4 with fail
    have HM1:=HD0;have HBL1:=HBL;have HF1:=Lib.hid (F0.mono (S':=Z) (by simp));have HZ1:Hid (Yto w Z Z):=Lib.hid (Yto.refl _ _);obtain ⟨Z1,hZZ⟩:∃ Z1,Z1=Z:=⟨_,rfl⟩
    rw [← hZZ] at HM1;have HZ1:Hid (Yto w Z Z1):=Lib.hid (by rw [hZZ];exact Yto.refl _ _);obtain ⟨Y1,hYY⟩:∃ Y1,Y1=Y:=⟨_,rfl⟩
    rw [← hYY] at HM1;clear z0 z2 HBL HD0 HF0 HYl q7 k6b F0 hZZ hYY;obtain ⟨R1,rfl⟩:∃ R1,R1=R:=⟨_,rfl⟩
  all_goals
    obtain ⟨bv1,im1,hh1⟩:=HM1.out.head;have c7:=hh1.at (i:=7) rfl;have hbW:=HM1.out.far.size;have z0:=HBL1.out.at (i:=0) rfl;have z1:=HBL1.out.at (i:=1) rfl;have z2:=HBL1.out.at (i:=2) rfl;have z3:=HBL1.out.at (i:=3) rfl;have z4:=HBL1.out.at (i:=4) rfl;have z5:=HBL1.out.at (i:=5) rfl;have z6:=HBL1.out.at (i:=6) rfl;have z7:=HBL1.out.at (i:=7) rfl;have c7a:=farC ((MM.Far.refl [] w1).alloc (.cells #[.int .u8 f.kind,.int .i64 f.at_,.int .i64 f.n,.int .i64 f.a,.string f.s,.slice none 0 0,.int .u64 f.w,.slice lA nl lc] 33)) c7;have HONE:=Lib.hid (rf_one f lA nl lc);clear hh1
    go_cut [] (fun wx=>MM.Far Z w wx∧∃ Z2 A c,Yto w Z Z2∧Sy w0 wx Z2 Y1 q g dv lv dm own R1 N (.slice A (rs.length+1) c) tv (.slice (some ⟨og,0,none⟩) (os.length+1) oc) (.slice (some ⟨og,0,none⟩) os.length oc) (rs++[(f,.slice lA nl lc)]) tops os [])
    case first =>
      go_region_law (
        refine MO.step_append ?_ (.tmp 24) (.tmp 26) 23 ?_ w0.heap.size 33 _ 8 104 forms_sliceZ form_infoZ rfl (by omega) (.slice rA rs.length rc) rs.length (rfC rs) ?_ ?_ (some ⟨w1.heap.size,0,none⟩) 1 1 (rfL (f,.slice lA nl lc)) ?_ rfl (fun h=>by cases h) [] ?_ HONE.out ?_ ?_ ?_ ?_
        · rfl
        · rfl
        · rfl
        · exact HM1.out.mc.row.alloc _
        · rfl
        · exact (MM.Src.row (MM.Row.new w1 33 (rfL (f,.slice lA nl lc))) (by simp) _ (fun j u hu=>hu))
        · simp only [maxLen];omega
        · omega
        · simp;omega
        intro v2 w2 hv2 hg2 hat2;obtain ⟨A2,c2x,rfl⟩:=own_sl4 w0 hv2;have hat3:(Value.slice A2 (rs.length+1) c2x).ownBlock=(Value.slice rA rs.length rc).ownBlock∨∃ b,(Value.slice A2 (rs.length+1) c2x).ownBlock=some b∧w1.heap.size≤b:=hat2.imp id (fun e=>⟨_,e,((MM.Far.refl [] w1).alloc _).drew.size⟩);have F2:MM.Far (Value.slice rA rs.length rc).ownBlock.toList w1 w2:=RC6.far_app hg2;obtain ⟨bv2,im2,hh2⟩:=HM1.out.head;have HH2:Hid (MM.Row w2 q 76 _):=Lib.hid (hh2.far F2 (fun hm=>MM.own_row_ne HM1.out.mc.row hh2 (by decide) (by simpa using hm)));have d7W:=HH2.out.at (i:=7) rfl;have e7W:=HH2.out.frozen 7;have HN:=Lib.hid (HM1.out.form (w1:=w2) f (.slice lA nl lc) hv2 F2 hat3);have HA2:=Lib.hid (newZ (v':=.slice A2 (rs.length+1) c2x) HM1.out.mc.zf hat3);have HF2:=Lib.hid F2;clear hg2 hv2 hat2 hat3 hh2)
      all_goals
        go_wp2_with fail
        go_meet
        refine ⟨?_,_,A2,c2x,HZ1.out.of ⟨HA2.out.sub,HA2.out.new⟩ HF1.out.size,HN.out⟩
        exact far_y HF1.out HZ1.out ((HF2.out.mono (S':=Z1) (fun b hb _=>(HM1.out.mc.zf b (by simpa using hb)).1)).trans (cellF w2 q 7 _) (fun b hb _=>by rw [List.mem_singleton.1 hb];exact HM1.out.mc.sub _ HM1.out.sc.yq)) (fun b hb _=>hb)
    case rest =>
      obtain ⟨hF1,Z2,A1,c1,hz1,hM1⟩:=hcut;have HM:=Lib.hid hM1;have HF:=Lib.hid hF1;have HZ2:=Lib.hid hz1;obtain ⟨bv3,im3,hh3⟩:=hM1.head;have k9:=hh3.at (i:=9) rfl;have kf9:=hh3.frozen 9;clear hF1 hz1 hM1 hh3 z0 z1 z2 z3 z4 z5 z6 z7 c7 c7a HONE HM1 HF1 HZ1 HBL1
      go_upto_region 5 with fail
      go_cut [] (fun wx=>MM.Far Z w wx∧Sy w0 wx Z2 Y1 q g dv lv dm own R1 N (.slice A1 (rs.length+1) c1) tv (.slice (some ⟨og,0,none⟩) os.length oc) (.slice (some ⟨og,0,none⟩) os.length oc) (rs++[(f,.slice lA nl lc)]) tops os [])
      case first =>
        go_region
        all_goals
          go_wp2;go_meet
          exact ⟨(far_y HF.out HZ2.out (cellF wc q 9 _) (fun b hb _=>by rw [List.mem_singleton.1 hb];exact HM.out.mc.sub _ HM.out.sc.yq)).drew,(HM.out.cut).to ((MM.Far.refl [] _).drew)⟩
      case rest =>
        obtain ⟨hF2,hM2⟩:=hcut;have HM:=Lib.hid hM2;have HF:=Lib.hid hF2;obtain ⟨bv3,im3,hh3⟩:=hM2.head;have k8:=hh3.at (i:=8) rfl;have k9:=hh3.at (i:=9) rfl;have hb3:=hM2.far.size;have HT:Hid (wc.ownsRow w0.heap.size 3 1 tv tops.length (ints tops)):=Lib.hid (hM2.mc.kin.each _ (List.mem_cons_self ..));clear hF2 hM2 hh3 kf9;by_cases ho:os.length=0
        · have d0:decide ((os.length:Int)=0)=true:=by simp [ho]
          go_wp2_with (first
            | (at_builtin;go_loud (refine RC6.kin_push HT.out hb3 (by omega) rfl (.tmp 54) (.tmp 56) rfl rfl rfl ?_;intro tA tc w4 ho4 hf4 ha4;obtain ⟨bv4,im4,hh4⟩:=HM.out.head;have HH4:Hid (MM.Row w4 q 76 _):=Lib.hid (hh4.far hf4 (fun hm=>MM.own_row_ne HT.out hh4 (by decide) (by simpa using hm)));have g1:=HH4.out.at (i:=8) rfl;have g2:=HH4.out.frozen 8;have HD:=Lib.hid (HM.out.top ho4 hf4 ha4);have HA4:=Lib.hid (newZ (v':=.slice tA (tops.length+1) tc) (HM.out.mc.zk _ (List.mem_cons_self ..)) ha4);have HF4:=Lib.hid hf4;clear ho4 hf4 ha4 hh4)))
          refine bodyPost_ret (v:=.tuple #[]) (results_none rfl _ _ _) rfl ?_
          obtain rfl:os=[]:=List.eq_nil_of_length_eq_zero ho;refine ⟨rfl,?_,_,Y1,_,_,_,[],?_,HD.out,rfl⟩
          · exact far_y (far_y HF.out HZ2.out HF4.out (fun b hb _=>(HM.out.mc.zk _ (List.mem_cons_self ..) b (by simpa using hb)).1)) ⟨HZ2.out.sub,HZ2.out.new⟩ (cellF w4 q 8 _) (fun b hb _=>by rw [List.mem_singleton.1 hb];exact HM.out.mc.sub _ HM.out.sc.yq)
          · exact HZ2.out.of ⟨HA4.out.sub,HA4.out.new⟩ HF.out.size
        · obtain ⟨y,os1,rfl⟩:∃ y os1,os=y::os1:=by
            cases os with
            | nil=>exact absurd rfl ho
            | cons y l=>exact ⟨y,l,rfl⟩
          obtain ⟨og2,oc2,e,hc3,hc4,hcell,hfz,hog,hog0,hogZ⟩:=HM.out.mc.open_at;injection e with e1 e2 e3;injection e1 with e1;injection e1 with e1;subst e1 e3;clear e2 ho;have HP0:=HM.out.mc.kin.each (y.lv,y.o.f.l) (by simp [kinsZ]);obtain ⟨hA,hc,hylv⟩:∃ A c,y.lv = .slice A y.o.f.l.length c:=own_sl4 w0 HP0;have hyl:y.o.f.l.length≤100000:=hl y (List.mem_cons_self ..);have c8:=hcell 8 _ rfl;have f8:=hfz (os1.length*10+8);rw [hylv] at c8;rw [List.length_cons] at k9;have d0:decide (((os1.length:Nat):Int)+1=0)=false:=by simp;omega
          have hne:=off_ownZ HM.out.mc.op HP0 (by decide) og rfl;have hos:os1.length≤1000000000:=by rw [List.length_cons] at hn;omega
          have HP:Hid (wc.ownsRow w0.heap.size 3 1 (.slice hA y.o.f.l.length hc) y.o.f.l.length (ints y.o.f.l)):=Lib.hid (hylv ▸ HP0);rw [hylv] at hne;have HC8:=Lib.hid c8;have HF8:=Lib.hid f8;have HOG:=Lib.hid hogZ;clear hcell hfz hl hn ht HP0 hc3 hc4 hog0 f8 hcI hcI2;have hI1:(0:Int)≤(os1.length:Int):=by omega
          have hI2:(os1.length:Int) < (os1.length:Int)+1:=by omega
          go_wp2;go_quiet (fail)
          have HPd:=Lib.hid (MM.own_far HP.out ((MM.Far.refl [] wc).drewN nq) (by simp));have HNd:=Lib.hid (HM.out.to ((MM.Far.refl [] wc).drewN nq))
          go_wp2_with (first
            | (at_builtin;refine RC6.kin_push (w:=wc.drewN nq) HPd.out hb3 (by omega) rfl (.tmp 76) (.tmp 78) rfl rfl rfl ?_;intro tA tc w5 ho5 hf5 ha5
               have c5L:=(hf5.cell (p:=⟨og,os1.length*10+8,none⟩) hog hne).trans HC8.out;have c5f:=(hf5.frozen (p:=⟨og,os1.length*10+8,none⟩) hog hne).trans HF8.out;have HMo:=Lib.hid (HNd.out.more (lv':=.slice tA (y.o.f.l.length+1) tc) rfl ho5 (hylv.symm ▸ hf5) (hylv.symm ▸ ha5));have HA5:=Lib.hid (newZ (v:=y.lv) (v':=.slice tA (y.o.f.l.length+1) tc) (HNd.out.mc.zk (y.lv,y.o.f.l) (by simp [kinsZ])) (hylv.symm ▸ ha5));have HF5:=Lib.hid hf5;clear ho5 hf5 ha5))
          refine bodyPost_end (results_none rfl _ _ _) rfl ?_
          refine ⟨rfl,?_,_,Y1,_,_,_,_,?_,HMo.out,rfl⟩
          · exact far_y (far_y HF.out HZ2.out (((MM.Far.refl (Value.slice hA y.o.f.l.length hc).ownBlock.toList wc).drewN nq).trans HF5.out (fun b hb _=>hb)) (fun b hb _=>(HM.out.mc.zk (y.lv,y.o.f.l) (by simp [kinsZ]) b (by rw [hylv];simpa using hb)).1)) ⟨HZ2.out.sub,HZ2.out.new⟩ (cellF w5 og _ _) (fun b hb _=>by rw [List.mem_singleton.1 hb];exact HOG.out.1)
          · exact HZ2.out.of ⟨HA5.out.sub,HA5.out.new⟩ HF.out.size
end
end SM
end Go.Proofs.YtodjaabcjojlkaaDoor
namespace Go.Proofs.YtodjaabcjojlkaaDoor
open Go.RowKit
set_option linter.unusedVariables false
namespace SM
open LX RW6 EX SC
open EW (Sl Bx ptr num strs sz_alloc)
open RX (Nd)
open RM6 (Kin)
def RO:List Oq→Rws→Prop
  | [],R=>R=[]
  | o::os,R=>if o.f.kind=6 then ∃ r R',R=r::R'∧o.f.n=(r.length:Nat)∧RO os R' else RO os R
theorem RO.fin {o:Oq} {os:List Oq} {R:Rws} (h:RO (o::os) R):RO os (popR o.f.kind R):=by
  unfold RO at h;unfold popR;split at h
  · rename_i k6;obtain ⟨r,R',rfl,_,h⟩:=h;rw [if_pos k6];exact h
  · rename_i k6;rw [if_neg k6];exact h
theorem RO.six {o:Oq} {os:List Oq} {R:Rws} (h:RO (o::os) R) (k:o.f.kind=6):∃ r R',R=r::R'∧o.f.n=(r.length:Nat):=by
  unfold RO at h;rw [if_pos k] at h;obtain ⟨r,R',h1,h2,_⟩:=h;exact ⟨r,R',h1,h2⟩
theorem RO.add {n:Nat}:∀ {os:List Oq} {R:Rws},RO os R→RO (aftO n os) R
  | [],_,h=>h
  | _::_,_,h=>h
structure FewS (B:Nat) (row:List Rf) (tops:List Nat) (op:List Oq):Prop where
  sum:row.length+op.length≤B
  tops:tops.length+min op.length 1≤100000
  head:∀ o∈op,o.f.l.length≤o.ps.length∧o.ps.length≤100000
  tail:∀ o∈op.tail,o.f.l.length < o.ps.length
theorem FewS.fin {B:Nat} {row:List Rf} {tops:List Nat} {o:Oq} {os:List Oq} (h:FewS B row tops (o::os)):FewS B (row++[o.f]) (aftT row.length os tops) (aftO row.length os):=by
  have h1:=h.sum;have h2:=h.tops;cases os with
  | nil =>
    refine ⟨?_,?_,fun x hx=>(by cases hx),fun x hx=>(by cases hx)⟩
    · simp [aftO] at h1 ⊢;omega
    · simp [aftT,aftO] at h2 ⊢;omega
  | cons p os =>
    refine ⟨?_,?_,fun x hx=>?_,fun x hx=>h.tail x (List.mem_cons_of_mem _ hx)⟩
    · simp [aftO] at h1 ⊢;omega
    · simp [aftT,aftO] at h2 ⊢;omega
    · rcases List.mem_cons.1 hx with rfl | hx
      · have:=h.tail p (List.mem_cons_self ..);have h4:=(h.head p (by simp)).2;refine ⟨?_,h4⟩
        show (p.f.l++[row.length]).length≤p.ps.length
        rw [List.length_append];simp;omega
      · exact h.head x (by simp [hx])
theorem goOnS_cons_fin (row:List Rf) (tops:List Nat) (R:Rws) (o:Oq) (os:List Oq) (h:¬ o.f.l.length < o.ps.length):goOnS row tops R (o::os)=goOnS (row++[o.f]) (aftT row.length os tops) (popR o.f.kind R) (aftO row.length os):=by
  rw [goOnS_fin _ _ _ _ _ h];cases os with
  | nil=>rw [show aftO row.length []=[] from rfl,goOnS_nil];rfl
  | cons o2 os2=>rfl
theorem aftO_len (n:Nat) (os:List Oq):(aftO n os).length=os.length:=by cases os <;> simp [aftO]
def RwOk (R:Rws):Prop:=(∀ r∈R,r.Nodup∧r.length≤100)∧R.length≤1000000000
theorem RwOk.pop {R:Rws} (h:RwOk R) (k:Int):RwOk (popR k R):=by
  unfold popR;split
  · exact ⟨fun r hr=>h.1 r (List.mem_of_mem_tail hr),by rw [List.length_tail];have:=h.2;omega⟩
  · exact h
def nextQ (w:World) (Z:List Nat) (q:Nat) (v:Value):Option Sp→Prop
  | none=>v = .nilFunc
  | some p=>Ip w Z q v p
def GoQ (w0 w:World) (Z:List Nat) (q g:Nat) (dv lv dm:Value) (own:ByteArray→Nat) (N:List ByteArray) (G:Sq) (B:Nat) (e:Ending) (w':World):Prop :=
  ∃ v Z' Y' fv tv ov rs os,e = .returned v∧MM.Far Z w w'∧Yto w Z Z'∧Sy w0 w' Z' Y' q g dv lv dm own G.R N fv tv ov ov rs G.tops os []∧rs.map (·.1)=G.row∧os.map (·.o)=G.op∧nextQ w' Z' q v G.next∧FewS B G.row G.tops G.op∧RO G.op G.R∧RwOk G.R
def GoI (w0 w:World) (Z:List Nat) (q g:Nat) (dv lv dm:Value) (own:ByteArray→Nat) (N:List ByteArray) (G:Sq) (B k:Nat) (wr:World):Prop :=
  ∃ Z' Y' fv tv ov R rs tops os,k=os.length∧MM.Far Z w wr∧Yto w Z Z'∧Sy w0 wr Z' Y' q g dv lv dm own R N fv tv ov ov rs tops os []∧goOnS (rs.map (·.1)) tops R (os.map (·.o))=G∧FewS B (rs.map (·.1)) tops (os.map (·.o))∧RO (os.map (·.o)) R∧RwOk R
section
variable {w0 w:World} {Z Y:List Nat} {q g:Nat} {dv lv dm:Value} {own:ByteArray→Nat} {R:Rws} {N:List ByteArray} {fv tv ov:Value} {rs:List (Rf × Value)} {tops:List Nat} {os:List Pz}
theorem sl_some {w:World} {Z:List Nat} {A:Option Addr} {n c:Nat} {vs:List Value} {k:Nat} {u:Value} (h:Sl w Z (.slice A n c) vs) (hu:vs[k]? = some u):∃ g o,A=some ⟨g,o,none⟩∧w.cell? ⟨g,o+k,none⟩=some u:=by
  obtain ⟨A',c',e,_,_,h3⟩:=h;injection e with e1;obtain ⟨g',o',e2,_,_,hc⟩:=h3 k u hu;exact ⟨g',o',by rw [e1];exact e2,hc⟩
set_option maxHeartbeats 8000000 in
set_option maxRecDepth 20000 in
theorem goOn_any {B:Nat} (hB:B≤1000000000) (h:Sy w0 w Z Y q g dv lv dm own R N fv tv ov ov rs tops os []) (hF:FewS B (rs.map (·.1)) tops (os.map (·.o))) (hO:RO (os.map (·.o)) R) (hW:RwOk R) :
    Calls Tryd.prog 38 #[ptr q] w (GoQ w0 w Z q g dv lv dm own N (goOnS (rs.map (·.1)) tops R (os.map (·.o))) B):=by
  obtain ⟨G,hG⟩:∃ G,goOnS (rs.map (·.1)) tops R (os.map (·.o))=G:=⟨_,rfl⟩
  have H0:Hid (GoI w0 w Z q g dv lv dm own N G B os.length w):=Lib.hid ⟨Z,Y,fv,tv,ov,R,rs,tops,os,rfl,MM.Far.refl _ _,Yto.refl _ _,h,hG,hF,hO,hW⟩;have HB:=Lib.hid hB;rw [hG];clear h hF hG hB hO hW;unfold ptr;go_enter Tryd.func38,Tryd.ntmps38
  go_wp2
  go_loopg [] os.length (fun k wr=>GoI w0 w Z q g dv lv dm own N G B k wr)
  case atStart=>exact H0.out
  case round =>
    obtain ⟨Z1,Y1,fv,tv,ov,R1,rs,tops,os,rfl,hF1,hz1,hM,hR,hFew,hO,hW⟩:=hrel;obtain ⟨bv,im,hh⟩:=hM.head;have k9:=hh.at (i:=9) rfl;have HM:=Lib.hid hM;have HF1:=Lib.hid hF1;have HZ1:=Lib.hid hz1;have HFew:=Lib.hid hFew;have HR:=Lib.hid hR;have HO:=Lib.hid hO;have HW:=Lib.hid hW;clear hF1 hz1 hM hR hFew H0 hO hW hh;cases os with
    | nil =>
      obtain ⟨oA,oc,rfl⟩:=own_sl4 w0 HM.out.mc.op;have hl0:([]:List Pz).length=0:=rfl;rw [hl0] at k9;clear hl0;go_wp2;go_ret
      have hR:=HR.out;rw [show List.map (fun x:Pz=>x.o) []=[] from rfl,goOnS_nil] at hR;subst hR;exact ⟨.nilFunc,Z1,Y1,fv,tv,_,rs,[],rfl,HF1.out,HZ1.out,HM.out,rfl,rfl,rfl,HFew.out,HO.out,HW.out⟩
    | cons x os1 =>
      obtain ⟨og,oc,rfl,hc1,hc2,hcell,-,hog,hog0,hogZ⟩:=HM.out.mc.open_at;obtain ⟨vs,hAV,hIs⟩:=HM.out.mc.prt x (List.mem_cons_self ..);obtain ⟨lA,lc,hlv⟩:∃ A c,x.lv = .slice A x.o.f.l.length c:=own_sl4 w0 (HM.out.mc.kin.each (x.lv,x.o.f.l) (by simp [kinsZ]));obtain ⟨⟨f,ps⟩,lv',av⟩:=x;simp only at hAV hIs hlv
      subst hlv;obtain ⟨aA,ac,rfl,-⟩:=hAV.form;obtain ⟨nl,hnl⟩:∃ nl,f.l.length=nl:=⟨_,rfl⟩
      obtain ⟨na,hna⟩:∃ na,vs.length=na:=⟨_,rfl⟩
      have hps:ps.length=na:=by rw [← hna];exact hIs.1.symm
      rw [hnl,hna] at hcell HM;rw [hna] at hAV;have d0:=hcell 0 _ rfl;have d1:=hcell 1 _ rfl;have d2:=hcell 2 _ rfl;have d3:=hcell 3 _ rfl;have d4:=hcell 4 _ rfl;have d5:=hcell 5 _ rfl;have d6:=hcell 6 _ rfl;have d7:=hcell 7 _ rfl;have d8:=hcell 8 _ rfl;have d9:=hcell 9 _ rfl;simp only [Nat.add_zero] at d0
      have hI1:(0:Int)≤(os1.length:Int):=by omega
      have hI2:(os1.length:Int) < (os1.length:Int)+1:=by omega
      have hI3:(0:Int) < (os1.length:Int)+1:=by omega
      have hos:os1.length≤1000000000:=by have h1:=HFew.out.sum;have:=HB.out;simp only [List.length_map,List.length_cons] at h1;omega
      have hw1:IntKind.i64.wrap (os1.length:Int)=(os1.length:Int):=IntWalk.i64_in _ (by omega);have hw2:IntKind.i64.wrap ((os1.length:Int)+1 - 1)=(os1.length:Int):=by rw [Int.add_sub_cancel];exact hw1
      have HNL:=Lib.hid hnl;have HPS:=Lib.hid hps;have HAV:=Lib.hid hAV;have HIS:=Lib.hid hIs;clear hcell hAV hIs hnl hna hps hog0 hc1 hc2;unfold num at *
      go_upto_region 2 with fail
      go_region_held3 (fun w'=>w'.cell? ⟨q,9,none⟩=some (.slice (some ⟨og,0,none⟩) (os1.length+1) oc)∧w'.cell? ⟨og,os1.length*10,none⟩=some (.int .i64 0)∧w'.cell? ⟨og,os1.length*10+1,none⟩=some (.int .u8 f.kind)∧w'.cell? ⟨og,os1.length*10+2,none⟩=some (.int .i64 f.at_)∧w'.cell? ⟨og,os1.length*10+3,none⟩=some (.int .i64 f.n)∧w'.cell? ⟨og,os1.length*10+4,none⟩=some (.int .i64 f.a)∧w'.cell? ⟨og,os1.length*10+5,none⟩=some (.string f.s)∧w'.cell? ⟨og,os1.length*10+6,none⟩=some (.slice none 0 0)∧w'.cell? ⟨og,os1.length*10+7,none⟩=some (.int .u64 f.w)∧w'.cell? ⟨og,os1.length*10+8,none⟩=some (.slice lA nl lc)∧w'.cell? ⟨og,os1.length*10+9,none⟩=some (.slice aA na ac)) (go_keep) (fail)
      obtain ⟨W2,hW2⟩:∃ W2,(wr.alloc (.cells #[.int .i64 0,.int .u8 f.kind,.int .i64 f.at_,.int .i64 f.n,.int .i64 f.a,.string f.s,.slice none 0 0,.int .u64 f.w,.slice lA nl lc,.slice aA na ac] 100)).drew=W2:=⟨_,rfl⟩
      have G0:MM.Far [] wr W2:=by rw [← hW2];exact ((MM.Far.refl [] wr).alloc _).drew
      have NB:MM.Row W2 wr.heap.size 100 [.int .i64 0,.int .u8 f.kind,.int .i64 f.at_,.int .i64 f.n,.int .i64 f.a,.string f.s,.slice none 0 0,.int .u64 f.w,.slice lA nl lc,.slice aA na ac]:=by rw [← hW2];exact (MM.Row.new wr 100 [.int .i64 0,.int .u8 f.kind,.int .i64 f.at_,.int .i64 f.n,.int .i64 f.a,.string f.s,.slice none 0 0,.int .u64 f.w,.slice lA nl lc,.slice aA na ac]).drew
      obtain ⟨bi,hbi⟩:∃ bi,wr.heap.size=bi:=⟨_,rfl⟩
      rw [hW2];rw [hbi] at NB ⊢;have n1:=NB.at (i:=1) rfl;have n2:=NB.at (i:=2) rfl;have n3:=NB.at (i:=3) rfl;have n4:=NB.at (i:=4) rfl;have n5:=NB.at (i:=5) rfl;have n6:=NB.at (i:=6) rfl;have n7:=NB.at (i:=7) rfl;have n8:=NB.at (i:=8) rfl;have n9:=NB.at (i:=9) rfl;have HG0:=Lib.hid G0;have HM2:=Lib.hid (HM.out.to G0);clear d0 d1 d2 d3 d4 d5 d6 d7 d8 d9 k9 hI1 hI2 hI3 NB G0 hW2;by_cases hlt:nl < na
      · obtain ⟨v,hv⟩:∃ v,vs[nl]? = some v:=by
          have h1:=HIS.out.1;have h2:=HPS.out;exact ⟨vs[nl],List.getElem?_eq_getElem (by omega)⟩
        obtain ⟨g5,o,rfl,hcv⟩:=sl_some HAV.out hv;have e0:=farC HG0.out hcv;have hpl:nl < ps.length:=by have:=HPS.out;omega
        have hIv:=HIS.out.2 nl v ps[nl] hv (List.getElem?_eq_getElem hpl);obtain ⟨f1,l1,rfl⟩:=hIv.func;have HIV:=Lib.hid (hIv.far HG0.out (by simp));have hx0:(0:Int)≤(nl:Int):=by omega
        have hx1:(nl:Int) < (na:Int):=by omega
        clear hIv hv hcv;go_wp2;go_ret
        have hR:=HR.out;have hlt2:f.l.length < ps.length:=by rw [HNL.out,HPS.out];exact hlt
        rw [List.map_cons,goOnS_next _ _ _ _ _ hlt2] at hR;have hO:=HO.out;have hFw:=HFew.out;subst hR;refine ⟨_,Z1,Y1,fv,tv,_,rs,_,rfl,HF1.out.trans HG0.out (by simp),⟨HZ1.out.sub,HZ1.out.new⟩,HM2.out,rfl,rfl,?_,hFw,hO,HW.out⟩
        show Ip _ _ _ _ (ps[f.l.length])
        have e:ps[f.l.length]'hlt2=ps[nl]'(by rw [← HNL.out];exact hlt2):=by congr 1 <;> exact HNL.out
        rw [e];exact HIV.out
      · have hx1:¬ (nl:Int) < (na:Int):=by omega
        have hFew2:=HFew.out;have HFIN:=Lib.hid (finish_any HM2.out (fun k6=>HO.out.six k6) (by have h1:=hFew2.sum;have h2:=HB.out;simp only [List.length_map,List.length_cons] at h1;omega) (by have h1:=hFew2.tops;omega) (fun y hy=>by
          have h1:=hFew2.head y.o (List.mem_cons_of_mem _ (List.mem_map_of_mem hy));omega) HW.out.2 (by have:=bnd_few HW.out.1;have:=HW.out.2;omega))
        simp only at HFIN
        unfold num ptr at HFIN;clear hFew2
        go_wp2_with (first
          | (go_at_call 53;(with_reducible refine HFIN.out.mono ?_);rintro e w3 ⟨rfl,hF3,Z3,Y3,fv3,tv3,ov3,os3,hz3,hM3,ho3⟩;have HM3:=Lib.hid hM3;have HF3:=Lib.hid hF3;have HZ3:=Lib.hid hz3;have HO3:=Lib.hid ho3;clear hM3 hF3 hz3 ho3))
        go_roundg os3.length
        case measure =>
          have:=congrArg List.length HO3.out;rw [List.length_map,aftO_len,List.length_map] at this;rw [List.length_cons];omega
        case rel =>
          have hlt2:¬ f.l.length < ps.length:=by rw [HNL.out,HPS.out];exact hlt
          have hR:=HR.out;have hO:=HO.out;have hFw:=HFew.out;rw [List.map_cons] at hR hO hFw;refine ⟨Z3,Y3,fv3,tv3,ov3,_,_,_,os3,rfl,far_y HF1.out ⟨HZ1.out.sub,HZ1.out.new⟩ (((MM.Far.refl Z1 wr).trans HG0.out (by simp)).trans HF3.out (fun b hb _=>hb)) (fun b hb _=>hb),(⟨HZ1.out.sub,HZ1.out.new⟩:Yto w Z Z1).of ⟨HZ3.out.sub,fun b hb=>(HZ3.out.new b hb).imp id (fun h=>Nat.le_trans HG0.out.size h)⟩ HF1.out.size,HM3.out,?_,?_,?_,HW.out.pop _⟩
          · rw [← hR,goOnS_cons_fin _ _ _ _ _ hlt2,HO3.out,List.map_append,List.length_map];rfl
          · have hf:=hFw.fin;rw [HO3.out,List.map_append];rw [List.length_map] at hf;exact hf
          · rw [HO3.out];exact hO.fin.add
end
end SM
end Go.Proofs.YtodjaabcjojlkaaDoor
