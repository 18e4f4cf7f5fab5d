/-
  The walk of ScopeKinds. Conditions: the primitives' table.
-/
import Derived.Test.YtodjaabcjojlkaaDoorQScoKm
import Derived.Test.YtodjaabcjojlkaaDoorQScoShown
import Derived.Test.YtodjaabcjojlkaaDoorQScoTab
import Derived.Deep.CutRange
import Derived.Deep.CutBlock
namespace Go.Proofs.YtodjaabcjojlkaaDoor
open Go.RowKit
set_option linter.unusedVariables false
namespace SM
open LX SX RW6 EX SC
open EW (Sl Bx ptr num strs NdR)
open RX (Nd)
open RM6 (Kin)
theorem sl_cell {w:World} {Z:List Nat} {A:Option Addr} {n c k:Nat} {vs:List Value} {u:Value} (h:Sl w Z (.slice A n c) vs) (hu:vs[k]? = some u):∃ g o,A=some ⟨g,o,none⟩∧g∉Z∧g < w.heap.size∧w.cell? ⟨g,o+k,none⟩=some u:=by
  obtain ⟨A',c',e,_,_,h3⟩:=h;injection e with e1 _ _;subst e1;exact h3 k u hu
def Nl (ps:List Pc):Prop:=∀ x∈ps,x.2.1=[]→x.2.2 = .slice none 0 0
theorem nl_app {qs:List Pc} {l L:List Nat} {v:Value} (h:Nl qs) (hv:L=[]→v = .slice none 0 0):Nl (qs++l.map fun p=>((p,L,v):Pc)):=fun y hy=>by
  rcases List.mem_append.1 hy with hy | hy
  · exact h y hy
  · obtain ⟨p,_,rfl⟩:=List.mem_map.1 hy;exact hv
theorem quiet_n {P:Program} {f:FuncId} {args:Array Value} {w:World} {n:Nat} {v:Value} (h:Calls P f args (w.drewN n) fun e w'=>e = .returned v∧w.drewN n=w'):Calls P f args (w.drewN n) fun e w''=>e = .returned v∧∃ m,w''=w.drewN m :=
  h.mono fun _ _ ⟨he,hm⟩=>⟨he,n,hm.symm⟩
set_option maxHeartbeats 80000000 in
set_option maxRecDepth 20000 in
theorem skinds_any (s:ByteArray) (w:World) (hPT:PT w):Calls Tryd.prog 3 #[.string s] w fun e w'=>e = .returned (.bool true)∧Below w.heap.size w w':=by
  have HSH:=Lib.hid (shown_any w hPT);have HPT:=Lib.hid hPT;clear hPT;by_cases h1000:1000 < s.size
  · have hgt:(1000:Int) < (s.size:Int):=by omega
    clear h1000;go_enter Tryd.func3,Tryd.ntmps3
    go_wp2_with (first
      | (go_at_call 4;(with_reducible refine HSH.out.mono ?_);rintro e w0 ⟨rfl,hF0⟩;have HF0:=Lib.hid hF0;clear hF0))
    go_ret
    exact ⟨rfl,HF0.out.below_nil⟩
  · have hle:¬ (1000:Int) < (s.size:Int):=by omega
    have hs:s.size≤1000:=by omega
    have HOF:=Lib.hid (fun w=>of_any s hs w);cases hO:ofS s with
    | error x =>
      obtain ⟨h9,hx1,hx2⟩:=bad_of hs hO;rw [hO] at HOF;obtain ⟨xa,xe,xN⟩:=x;simp only at h9 hx1 hx2
      have d1:decide ((0:Int)≤xa)=true:=by simp [hx1]
      have d2:decide (xa < (s.size:Int))=true:=by simp [hx2]
      clear hO h1000 hs
      rcases h9 with rfl | rfl <;>
      · go_enter Tryd.func3,Tryd.ntmps3
        go_wp2_with (first
          | (go_at_call 4;(with_reducible refine HSH.out.mono ?_);rintro e w0 ⟨rfl,hF0⟩;have HO1:=Lib.hid (HOF.out w0 (HPT.out.far hF0));have HF0:=Lib.hid hF0;clear hF0)
          | (go_at_call 5;(with_reducible refine HO1.out.mono ?_);rintro e w2 ⟨g,rfl,hF2,-,-⟩;have HF2:=Lib.hid (HF0.out.trans hF2 (by simp));unfold ptr num;clear hF2))
        go_ret
        exact ⟨rfl,HF2.out.below_nil⟩
    | ok y =>
      obtain ⟨N,row,t⟩:=y;obtain ⟨hT,hlt⟩:=Todo.first hs hO;obtain ⟨f1,f2,f3⟩:=scope_few hs hO;rw [hO] at HOF;have HT:=Lib.hid hT;have HLT:=Lib.hid hlt;have HFL:=Lib.hid f2;obtain ⟨m,hm⟩:∃ m,row.length=m:=⟨_,rfl⟩
      obtain ⟨tl,htl⟩:∃ tl,t.length=tl:=⟨_,rfl⟩
      rw [hm] at f1;rw [htl] at f3;have HM:=Lib.hid hm;have HTL:=Lib.hid htl;clear hT hlt hO h1000 hs f2 hm htl;go_enter Tryd.func3,Tryd.ntmps3
      go_wp2_with (first
        | (go_at_call 4;(with_reducible refine HSH.out.mono ?_);rintro e w0 ⟨rfl,hF0⟩;have HO1:=Lib.hid (HOF.out w0 (HPT.out.far hF0));have HF0:=Lib.hid hF0;clear hF0)
        | (go_at_call 5;(with_reducible refine HO1.out.mono ?_);rintro e w2 ⟨fv,tv,rs,g,rfl,hF2,hN2,-,hrs,hrow,hk⟩;obtain ⟨FA,fc,rfl,-,-,-,hRf⟩:=rf_rows hrow hk;rw [hrs] at hRf;have hrl:rs.length=m:=(by have:=congrArg List.length hrs;rw [List.length_map] at this;exact this.trans HM.out);obtain ⟨TB,td,rfl,-,-,-,hTr⟩:=tops_row hk;rw [hrl,HTL.out];have HRF:=Lib.hid hRf;have HTR:=Lib.hid hTr;have HN2:=Lib.hid hN2;have HF2:=Lib.hid (HF0.out.trans hF2 (by simp));unfold ptr;clear hrs hrow hk hrl hF2 hRf hTr hN2))
      have HNLW:=Lib.hid (show ∀ w',MM.Far [] w2 w'→Calls Tryd.prog 6 #[.pointer (some ⟨g,0,none⟩)] w' fun e w''=>e = .returned (.int .i64 (N.length:Nat))∧w'=w'' from fun w' f=>by
        obtain ⟨S,mv,sv,hn,-⟩:=HN2.out;exact NW.len_any (hn.nil f))
      clear HN2
      go_loopw [66] (fun s66 wr=>∃ k:Nat,k≤m∧s66 = .int .i64 (k:Int)∧Hid (MM.Far [] w2 wr)) (fun s66 _=>m - (intOf s66).toNat)
      case atStart=>exact ⟨0,by omega,rfl,Lib.hid (MM.Far.refl _ _)⟩
      case round =>
        obtain ⟨k,hk,rfl,hH⟩:=hrel;by_cases hlk:k < m
        · have hk2:k < row.length:=by rw [HM.out];exact hlk
          obtain ⟨b,o,LA,lc,rfl,hb,a0,a1,a2,a3,a4,a5,a6,a7,hI⟩:=HRF.out.far hH.out k hk2;have hpl:=HLT.out k hk2;have hfl:=HFL.out _ (List.getElem_mem hk2);generalize row[k]=x at *;obtain ⟨kd,at_,nn,aa,ss,ww,l⟩:=x;simp only at a0 a1 a2 a3 a4 a5 a6 a7 hI hpl hfl
          obtain ⟨q,hq⟩:∃ q,l.length=q:=⟨_,rfl⟩
          rw [hq] at a7;have hq5:q≤100000:=by rw [← hq];exact hfl
          have HQ:=Lib.hid hq;have HI:=Lib.hid hI;have HPL:=Lib.hid hpl;have HH:=Lib.hid (hH.out.alloc (.cells #[.int .u8 kd,.int .i64 at_,.int .i64 nn,.int .i64 aa,.string ss,.slice none 0 0,.int .u64 ww,.slice LA q lc] 33));obtain ⟨w3,hw3⟩:∃ w3,w3=wr:=⟨_,rfl⟩
          rw [← hw3] at HI HH a0 a1 a2 a3 a4 a5 a6 a7 hb ⊢;clear hk2 hq hI hpl hH hw3 hfl;go_wp2;have HI2:=Lib.hid (HI.out.far ((MM.Far.refl [] w3).alloc (.cells #[.int .u8 kd,.int .i64 at_,.int .i64 nn,.int .i64 aa,.string ss,.slice none 0 0,.int .u64 ww,.slice LA q lc] 33)));obtain ⟨w4,hw4⟩:∃ w4,w4=w3.alloc (.cells #[.int .u8 kd,.int .i64 at_,.int .i64 nn,.int .i64 aa,.string ss,.slice none 0 0,.int .u64 ww,.slice LA q lc] 33):=⟨_,rfl⟩
          rw [← hw4] at HI2 HH ⊢;clear hw4 HI a0 a1 a2 a3 a4 a5 a6 a7
          go_loopw [74] (fun s74 wr=>∃ j:Nat,j≤q∧s74 = .int .i64 (j:Int)∧Hid (MM.Far [] w4 wr)) (fun s74 _=>q - (intOf s74).toNat)
          case atStart=>exact ⟨0,by omega,rfl,Lib.hid (MM.Far.refl _ _)⟩
          case round =>
            obtain ⟨j,hj,rfl,hG⟩:=hrel;by_cases hlj:j < q
            · have hj2:j < l.length:=by rw [HQ.out];exact hlj
              obtain ⟨gl,ol,rfl,hgl,hcl⟩:=HI2.out.far hG.out j hj2;have hpk:=HPL.out _ (List.getElem_mem hj2);generalize l[j]=pv at *;have d1:¬ ((pv:Int) < 0):=by omega
              have d2:¬ ((k:Int)≤(pv:Int)):=by omega
              have d3:decide ((pv:Int) < 0)=false:=by rw [decide_eq_false_iff_not];exact d1
              have d4:decide ((k:Int)≤(pv:Int))=false:=by rw [decide_eq_false_iff_not];exact d2
              have d5:decide (k≤pv)=false:=by rw [decide_eq_false_iff_not];omega
              clear hj2;go_wp2;go_roundw
              case rel=>exact ⟨j+1,by omega,by go_num,hG⟩
              case measure=>simp [intOf];omega
            · obtain rfl:j=q:=by omega
              have HG:=Lib.hid (HH.out.trans hG.out (by simp));clear HI2 hG;go_wp2;go_roundw
              case rel=>exact ⟨k+1,by omega,by go_num,HG⟩
              case measure=>simp [intOf];omega
        · obtain rfl:k=m:=by omega
          have hF2:Hid (MM.Far [] w wr):=Lib.hid (HF2.out.trans hH.out (by simp));have HRF2:=Lib.hid (HRF.out.far hH.out);have HTR2:=Lib.hid (HTR.out.far hH.out);have HH:=Lib.hid hH.out;obtain ⟨w3,hw3⟩:∃ w3,w3=wr:=⟨_,rfl⟩
          rw [← hw3] at hF2 HRF2 HTR2 HH ⊢;clear hw3 hH HRF HTR;go_wp2;have HT0:Hid (Td w3 w3.heap.size (.slice none 0 0) ((t.take 0).map fun p=>(p,[],.slice none 0 0))):=Lib.hid (by rw [List.take_zero];exact Td.none_ w3 _)
          go_loopw [13,89] (fun s13 s89 wr=>∃ j:Nat,j≤tl∧s89 = .int .i64 (j:Int)∧Hid (Td wr w3.heap.size s13 ((t.take j).map fun p=>(p,[],.slice none 0 0)))∧Hid (MM.Far [] w3 wr)) (fun _ s89 _=>tl - (intOf s89).toNat)
          case atStart=>exact ⟨0,by omega,rfl,HT0,Lib.hid (MM.Far.refl _ _)⟩
          case round =>
            obtain ⟨j,hj,rfl,hTd,hG⟩:=hrel;clear HT0;by_cases hlj:j < tl
            · have hj2:j < t.length:=by rw [HTL.out];exact hlj
              obtain ⟨gl,ol,rfl,hgl,hcl⟩:=HTR2.out.far hG.out j hj2;obtain ⟨hpk,-,-⟩:=(HT.out.ok (t[j],[]) (List.mem_map.2 ⟨t[j],List.getElem_mem hj2,rfl⟩)).open_;simp only at hpk
              rw [HM.out] at hpk;have htk:t.take (j+1)=t.take j++[t[j]]:=by rw [List.take_succ_eq_append_getElem hj2]
              have hln:((t.take j).map fun p=>((p,[],.slice none 0 0):Pc)).length=j:=by rw [List.length_map,List.length_take];omega
              generalize t[j]=pv at *;have HTK:=Lib.hid htk;have d1:¬ ((pv:Int) < 0):=by omega
              have d2:¬ ((k:Int)≤(pv:Int)):=by omega
              have d3:decide ((pv:Int) < 0)=false:=by rw [decide_eq_false_iff_not];exact d1
              have d4:decide ((k:Int)≤(pv:Int))=false:=by rw [decide_eq_false_iff_not];exact d2
              have d5:decide (k≤pv)=false:=by rw [decide_eq_false_iff_not];omega
              have hB:=hG.out.size;have HLN:=Lib.hid hln;generalize hps:((t.take j).map fun p=>((p,[],.slice none 0 0):Pc))=ps at *;obtain ⟨TA,tc,e13⟩:=hTd.out.form;rw [HLN.out] at e13;subst e13;have HPS:=Lib.hid hps;clear hj2 htk hln hps
              go_wp2_with (first
                | (at_builtin;refine Td.push (pv,[],.slice none 0 0) hTd.out hB (by have:=HLN.out;omega) (Sl.nil _ _) rfl (.tmp 101) (.tmp 104) rfl rfl rfl ?_;intro A5 c5 w5 hT5 hF5 hS5 hb5;rw [HLN.out] at hT5 ⊢;have HT5:=Lib.hid hT5;have HF5:=Lib.hid (hG.out.trans hF5 (fun b hb hl=>by have:=hb5 b (by simpa using hb);omega));clear hT5 hF5 hb5 hS5))
              go_roundw
              case rel=>exact ⟨j+1,by omega,by go_num,Lib.hid (by rw [HTK.out,List.map_append,HPS.out];exact HT5.out),HF5⟩
              case measure=>simp [intOf];omega
            · obtain rfl:j=tl:=by omega
              have e1:t.take j=t:=List.take_of_length_le (by rw [HTL.out];exact Nat.le_refl _);have HTD:=Lib.hid (show Td wr w3.heap.size u13 (t.map fun p=>(p,[],.slice none 0 0)) from e1 ▸ hTd.out);have HG:=Lib.hid (hG.out);clear e1 hTd hG HTR2;go_wp2;have HN3:=Lib.hid (HF0.out.size);have HTD0:Hid (∃ ps:List Pc,ps.map (fun x=>(x.1,x.2.1))=t.map (fun p=>(p,[]))∧Td wr w3.heap.size u13 ps∧Nl ps):=Lib.hid ⟨_,by rw [List.map_map];rfl,HTD.out,fun x hx _=>by obtain ⟨p,_,rfl⟩:=List.mem_map.1 hx;rfl⟩;clear HTD
              go_loopw [13,16] (fun s13 s16 wr=>∃ (seen:Nat) (ps:List Pc),s16 = .int .i64 (seen:Int)∧Hid (Todo row N.length seen (ps.map fun x=>(x.1,x.2.1)))∧Hid (Td wr w3.heap.size s13 ps)∧Hid (MM.Far [] w3 wr)∧Hid (Nl ps)) (fun _ s16 _=>k+1 - (intOf s16).toNat)
              case atStart=>exact (by obtain ⟨ps,e,h,h2⟩:=HTD0.out;exact ⟨0,ps,rfl,Lib.hid (by rw [e];exact HT.out),Lib.hid h,HG,Lib.hid h2⟩)
              case round =>
                clear HTD0 HG;obtain ⟨seen,ps,rfl,hTodo,hTd,hG,hNl⟩:=hrel
                rcases List.eq_nil_or_concat ps with rfl | ⟨qs,x,rfl⟩
                · have hend:=hTodo.out.none_;rw [HM.out] at hend;obtain ⟨EA,ec,e13⟩:=hTd.out.form;simp only [List.length_nil] at e13
                  subst e13;go_wp2;go_ret
                  exact ⟨rfl,(hF2.out.trans hG.out (by simp)).below_nil⟩
                · rw [List.concat_eq_append] at hTodo hTd hNl;obtain ⟨i,L,xv⟩:=x;have hT2:=hTodo.out;rw [List.map_append,List.map_singleton] at hT2;obtain ⟨hi,hck,hLs,hsm,hnext⟩:=hT2.step HLT.out;obtain ⟨og,oc,rfl,hoc,hocm,p0,p1,hog,hTq,hSx⟩:=hTd.out.open_at;simp only at p0 p1 hSx
                  obtain ⟨b,o,LA,lc,rfl,hb,a0,a1,a2,a3,a4,a5,a6,a7,hI⟩:=HRF2.out i hi;replace a0:=EW.far_cell hG.out a0;replace a1:=EW.far_cell hG.out a1;replace a2:=EW.far_cell hG.out a2;replace a3:=EW.far_cell hG.out a3;replace a4:=EW.far_cell hG.out a4;replace a5:=EW.far_cell hG.out a5;replace a6:=EW.far_cell hG.out a6;replace a7:=EW.far_cell hG.out a7;replace hb:=Nat.lt_of_lt_of_le hb hG.out.size;have hfl:=HFL.out _ (List.getElem_mem hi);rw [HM.out] at hi hsm;generalize row[i]=f at *;obtain ⟨kd,at_,nn,aa,ss,ww,l⟩:=f;simp only at a0 a1 a2 a3 a4 a5 a6 a7 hI hfl hnext
                  have hk0:=hck.k;have HNQ:=Lib.hid (show Nl qs from fun y hy=>hNl.out y (List.mem_append_left _ hy));have hnv:L=[]→xv = .slice none 0 0:=hNl.out (i,L,xv) (by simp);clear hNl;obtain ⟨q,hq⟩:∃ q,l.length=q:=⟨_,rfl⟩
                  obtain ⟨n1,hn1⟩:∃ n1,qs.length=n1:=⟨_,rfl⟩
                  obtain ⟨lr,hlr⟩:∃ lr,L.length=lr:=⟨_,rfl⟩
                  rw [hq] at a7 hfl;simp only [hn1] at hoc p0 p1 hTq ⊢
                  have hTl:=hTodo.out.len;rw [HM.out] at hTl;simp only [List.length_map,List.length_append,List.length_singleton,hn1] at hTl
                  obtain ⟨RA,rc,rfl,hrc,hrcm⟩:=hSx.form;rw [show (ints L.reverse).length=lr by simp [ints,hlr]] at hSx hrc hnv p1;have HNV:=Lib.hid hnv;clear hnv;unfold maxLen at hocm hrcm;have HNX:=Lib.hid hnext;have HCK:=Lib.hid hck;have HI:=Lib.hid hI;have HQ:=Lib.hid hq;have HN1:=Lib.hid hn1;have HLR:=Lib.hid hlr;have HTQ:=Lib.hid hTq;have HSX:=Lib.hid hSx;obtain ⟨w5,hw5⟩:∃ w5,w5=wr:=⟨_,rfl⟩
                  have HG:=Lib.hid (hG.out);rw [← hw5] at HTQ HSX HG a0 a1 a2 a3 a4 a5 a6 a7 p0 p1 hb hog ⊢;clear hnext hck hI hq hn1 hlr hTq hSx hT2 hTodo hTd hG hw5;obtain ⟨hk1,hk2,hk3⟩:=hk0;have z1:(kd == 1)=false:=by simp [hk1]
                  have z2:(kd == 2)=false:=by simp [hk2]
                  have z3:(kd == 3)=false:=by simp [hk3]
                  have y1:decide (kd=1)=false:=by simp [hk1]
                  have y2:decide (kd=2)=false:=by simp [hk2]
                  have y3:decide (kd=3)=false:=by simp [hk3]
                  obtain ⟨L',hL'⟩:∃ L',(if kd=6 then nn.toNat::L else L)=L':=⟨_,rfl⟩
                  have HLX:=Lib.hid hL';have HNY:Hid (Todo row N.length (seen+1) (qs.map (fun x=>(x.1,x.2.1))++l.map fun p=>(p,L'))):=Lib.hid (by rw [← hL'];exact HNX.out);clear hL' HNX
                  go_upto_block 8 with (fail)
                  have f6:MM.Far [] w5 ((w5.alloc (.cells #[.int .i64 ((i:Nat):Int),.slice RA lr rc] 36)).alloc (.cells #[.int .u8 kd,.int .i64 at_,.int .i64 nn,.int .i64 aa,.string ss,.slice none 0 0,.int .u64 ww,.slice LA q lc] 33)):=((MM.Far.refl [] w5).alloc _).alloc _;have r6:=MM.Row.new (w5.alloc (.cells #[.int .i64 ((i:Nat):Int),.slice RA lr rc] 36)) 33 [.int .u8 kd,.int .i64 at_,.int .i64 nn,.int .i64 aa,.string ss,.slice none 0 0,.int .u64 ww,.slice LA q lc];rw [EW.sz_alloc] at r6;obtain ⟨bf,hbf⟩:∃ bf,w5.heap.size+1=bf:=⟨_,rfl⟩
                  rw [hbf] at r6;generalize (w5.alloc (.cells #[.int .i64 ((i:Nat):Int),.slice RA lr rc] 36)).alloc (.cells #[.int .u8 kd,.int .i64 at_,.int .i64 nn,.int .i64 aa,.string ss,.slice none 0 0,.int .u64 ww,.slice LA q lc] 33)=W6 at *
                  try rw [hbf]
                  have HF6:=Lib.hid f6;have HR6:=Lib.hid r6;clear f6 r6 hbf a0 a1 a2 a3 a4 a5 a6 a7;have x0:=HR6.out.at (i:=0) rfl;have x2:=HR6.out.at (i:=2) rfl;have x3:=HR6.out.at (i:=3) rfl;have HSW:=Lib.hid (HSX.out.far HF6.out (by simp))
                  go_cut [19] from 107 to 250 (fun s19 wx=>∃ (RA':Option Addr) (n' rc':Nat),s19 = .slice RA' n' rc'∧Hid (Sl wx [og] (.slice RA' n' rc') (ints L'.reverse))∧Hid (L'=[]→Value.slice RA' n' rc' = .slice none 0 0)∧Hid (MM.Far [] W6 wx))
                  case first =>
                    as_aux_lemma =>
                      by_cases hk12:kd=12
                      · subst hk12;obtain ⟨hn0,hn1⟩:=HCK.out.p rfl;simp only at hn0 hn1
                        have n0:¬ nn < 1:=by omega
                        have n2:¬ (31:Int)≤nn:=by omega
                        have n3:decide (nn < 1)=false:=by rw [decide_eq_false_iff_not];exact n0
                        have n4:decide ((31:Int)≤nn)=false:=by rw [decide_eq_false_iff_not];exact n2
                        have HL2:=Lib.hid ((if_neg (show ¬ (12:Int)=6 by decide)).symm.trans HLX.out);go_wp2;go_meet
                        exact ⟨RA,lr,rc,rfl,Lib.hid (by rw [← HL2.out];exact HSW.out),Lib.hid (by rw [← HL2.out];exact HNV.out),Lib.hid (MM.Far.refl _ _)⟩
                      have z12:(kd == 12)=false:=by simp [hk12]
                      by_cases hk6:kd=6
                      · subst hk6;obtain ⟨hn0,hn1⟩:=HCK.out.fn rfl;simp only at hn0 hn1
                        obtain ⟨nt,hnt⟩:∃ nt:Nat,nn.toNat=nt:=⟨_,rfl⟩
                        have HL2:Hid (nt::L=L'):=Lib.hid (by rw [← hnt];exact (if_pos rfl).symm.trans HLX.out);have hnn:nn=(nt:Int):=by omega
                        subst hnn;clear hnt;have hlr9:lr≤200000000:=by have:=HLR.out;have h2:L.length≤seen:=hLs;omega
                        have hRA:RA=none→lr=0:=fun e=>by
                          rcases Nat.eq_zero_or_pos lr with h | h
                          · exact h
                          · have hr0:0 < (ints L.reverse).length:=by simp only [ints,List.length_map,List.length_reverse,HLR.out];omega
                            obtain ⟨gr,oR,e2,-⟩:=sl_cell HSX.out (List.getElem?_eq_getElem hr0);rw [e] at e2;cases e2
                        have hlr0:(0:Int)≤(lr:Int):=by omega
                        have hlr1:(lr:Int)≤(rc:Int):=by omega
                        have hog6:∀ b∈[og],b < W6.heap.size:=fun b hb=>by rw [List.mem_singleton.1 hb];exact Nat.lt_of_lt_of_le hog HF6.out.size
                        go_wp2
                        go_region_law (
                          refine step_rows (RA:=RA) (lr:=lr) (bx:=W6.heap.size) (rc:=rc) (L:=L.reverse) (n:=nt) (Z:=[og]) ?_ (.tmp 191) (.tmp 194) ?_ ?_ ?_ (HSW.out.far (((MM.Far.refl [] W6).alloc _).drew) (by simp)) hRA ?_ ?_ ?_ ?_
                          · rfl
                          · rfl
                          · rfl
                          · rfl
                          · omega
                          · exact MM.Row.drew (row_at (l:=[.int .i64 ((nt:Nat):Int)]) rfl)
                          · intro b' hb';exact Nat.lt_of_lt_of_le (hog6 b' hb') (((MM.Far.refl [] W6).alloc _).drew).size
                          intro RA6 rc6 w6 hS6 hF6;have HS6:=Lib.hid (show Sl w6 [og] (.slice RA6 (lr+1) rc6) (ints (nt::L).reverse) from by rw [List.reverse_cons];exact hS6);have HFY:=Lib.hid ((((MM.Far.refl [] W6).alloc _).drew).trans hF6 (by simp));clear hS6 hF6)
                        go_wp2;go_meet
                        exact ⟨RA6,lr+1,rc6,rfl,Lib.hid (by rw [← HL2.out];exact HS6.out),Lib.hid (fun h=>by rw [← HL2.out] at h;cases h),HFY⟩
                      have z6:(kd == 6)=false:=by simp [hk6]
                      have HL2:=Lib.hid ((if_neg hk6).symm.trans HLX.out);by_cases hk11:kd=11
                      · subst hk11;obtain ⟨kk,mm,rfl,hL,hn0,hn1⟩ | ⟨-,hbad⟩:=HCK.out.l (.inl rfl)
                        · simp only at hn0 hn1
                          have hkl:kk < lr:=by rw [← HLR.out];exact (List.getElem?_eq_some_iff.1 hL).1
                          have hix:(lr:Int) - 1 - (kk:Int)=((lr - 1 - kk:Nat):Int):=by omega
                          obtain ⟨ix,hix2⟩:∃ ix,lr - 1 - kk=ix:=⟨_,rfl⟩
                          rw [hix2] at hix;have hrow:(ints L.reverse)[ix]? = some (.int .i64 ((mm:Nat):Int)):=by
                            unfold ints;rw [List.getElem?_map,List.getElem?_reverse (by rw [HLR.out];omega),HLR.out,show lr - 1 - ix=kk by omega,hL];rfl
                          obtain ⟨gr,oR,rfl,hgz,hgr,r0⟩:=sl_cell HSW.out hrow;have e0:(lr:Int) - 1 - (kk:Int) < (lr:Int):=by omega
                          have e1:(0:Int)≤(lr:Int) - 1 - (kk:Int):=by omega
                          have e2:((lr:Int) - 1 - (kk:Int)).toNat=ix:=by omega
                          have e3:¬ (lr:Int)≤(kk:Int):=by omega
                          have e4:¬ (kk:Int) < 0:=by omega
                          have e5:¬ nn < 0:=by omega
                          have e6:¬ (mm:Int)≤nn:=by omega
                          have e7:(0:Int)≤(kk:Int):=by omega
                          have f3:decide ((lr:Int)≤(kk:Int))=false:=by rw [decide_eq_false_iff_not];exact e3
                          have f3':decide (lr≤kk)=false:=by rw [decide_eq_false_iff_not];omega
                          have f4:decide ((kk:Int) < 0)=false:=by rw [decide_eq_false_iff_not];exact e4
                          have f5:decide (nn < 0)=false:=by rw [decide_eq_false_iff_not];exact e5
                          have f6:decide ((mm:Int)≤nn)=false:=by rw [decide_eq_false_iff_not];exact e6
                          have f7:decide ((0:Int)≤(kk:Int))=true:=by rw [decide_eq_true_iff];exact e7
                          clear hrow hgz hix2 hL;go_wp2;go_quiet (fail)
                          go_wp2;go_meet
                          exact ⟨some ⟨gr,oR,none⟩,lr,rc,rfl,Lib.hid (by rw [← HL2.out];exact HSW.out),Lib.hid (by rw [← HL2.out];exact HNV.out),Lib.hid ((MM.Far.refl [] W6).drewN _)⟩
                        · exact absurd hbad (by simp)
                      have z11:(kd == 11)=false:=by simp [hk11]
                      by_cases hk7:kd=7
                      · subst hk7;obtain ⟨kk,mm,rfl,hL,hn0,hn1⟩ | ⟨hneg,-⟩:=HCK.out.l (.inr rfl)
                        · simp only at hn0 hn1
                          have hkl:kk < lr:=by rw [← HLR.out];exact (List.getElem?_eq_some_iff.1 hL).1
                          have hix:(lr:Int) - 1 - (kk:Int)=((lr - 1 - kk:Nat):Int):=by omega
                          obtain ⟨ix,hix2⟩:∃ ix,lr - 1 - kk=ix:=⟨_,rfl⟩
                          rw [hix2] at hix;have hrow:(ints L.reverse)[ix]? = some (.int .i64 ((mm:Nat):Int)):=by
                            unfold ints;rw [List.getElem?_map,List.getElem?_reverse (by rw [HLR.out];omega),HLR.out,show lr - 1 - ix=kk by omega,hL];rfl
                          obtain ⟨gr,oR,rfl,hgz,hgr,r0⟩:=sl_cell HSW.out hrow;have e0:(lr:Int) - 1 - (kk:Int) < (lr:Int):=by omega
                          have e1:(0:Int)≤(lr:Int) - 1 - (kk:Int):=by omega
                          have e2:((lr:Int) - 1 - (kk:Int)).toNat=ix:=by omega
                          have e3:¬ (lr:Int)≤(kk:Int):=by omega
                          have e4:¬ (kk:Int) < 0:=by omega
                          have e5:¬ nn < 0:=by omega
                          have e6:¬ (mm:Int)≤nn:=by omega
                          have e7:(0:Int)≤(kk:Int):=by omega
                          have f3:decide ((lr:Int)≤(kk:Int))=false:=by rw [decide_eq_false_iff_not];exact e3
                          have f3':decide (lr≤kk)=false:=by rw [decide_eq_false_iff_not];omega
                          have f4:decide ((kk:Int) < 0)=false:=by rw [decide_eq_false_iff_not];exact e4
                          have f5:decide (nn < 0)=false:=by rw [decide_eq_false_iff_not];exact e5
                          have f6:decide ((mm:Int)≤nn)=false:=by rw [decide_eq_false_iff_not];exact e6
                          have f7:decide ((0:Int)≤(kk:Int))=true:=by rw [decide_eq_true_iff];exact e7
                          clear hrow hgz hix2 hL;go_wp2;go_quiet (fail)
                          go_wp2;go_meet
                          exact ⟨some ⟨gr,oR,none⟩,lr,rc,rfl,Lib.hid (by rw [← HL2.out];exact HSW.out),Lib.hid (by rw [← HL2.out];exact HNV.out),Lib.hid ((MM.Far.refl [] W6).drewN _)⟩
                        · simp only at hneg
                          have e3:¬ (lr:Int)≤aa:=by omega
                          have e4:¬ (0:Int)≤aa:=by omega
                          have f3:decide ((lr:Int)≤aa)=false:=by rw [decide_eq_false_iff_not];exact e3
                          have f4:decide ((0:Int)≤aa)=false:=by rw [decide_eq_false_iff_not];exact e4
                          have f5:decide (aa < 0)=true:=by rw [decide_eq_true_iff];exact hneg
                          go_wp2;go_quiet (fail)
                          go_wp2;go_meet
                          exact ⟨RA,lr,rc,rfl,Lib.hid (by rw [← HL2.out];exact HSW.out),Lib.hid (by rw [← HL2.out];exact HNV.out),Lib.hid ((MM.Far.refl [] W6).drewN _)⟩
                      have z7:(kd == 7)=false:=by simp [hk7]
                      go_wp2;go_meet
                      exact ⟨RA,lr,rc,rfl,Lib.hid (by rw [← HL2.out];exact HSW.out),Lib.hid (by rw [← HL2.out];exact HNV.out),Lib.hid (MM.Far.refl _ _)⟩
                  case rest =>
                    as_aux_lemma =>
                      obtain ⟨RA',n',rc',rfl,HS',HNV',HFX⟩:=hcut;clear x0 x2 x3 HSX HSW HLX HNV;have HRX:=Lib.hid (HR6.out.far HFX.out (by simp));have x0:=HRX.out.at (i:=0) rfl;have x1:=HRX.out.at (i:=1) rfl;have x2:=HRX.out.at (i:=2) rfl;have x3:=HRX.out.at (i:=3) rfl;have x4:=HRX.out.at (i:=4) rfl;have x5:=HRX.out.at (i:=5) rfl;have x6:=HRX.out.at (i:=6) rfl;have x7:=HRX.out.at (i:=7) rfl
                      go_upto_region 49 with (fail)
                      have r7:=MM.Row.new wc 33 [.int .u8 kd,.int .i64 at_,.int .i64 nn,.int .i64 aa,.string ss,.slice none 0 0,.int .u64 ww,.slice LA q lc];have f7:=(MM.Far.refl [] wc).alloc (.cells #[.int .u8 kd,.int .i64 at_,.int .i64 nn,.int .i64 aa,.string ss,.slice none 0 0,.int .u64 ww,.slice LA q lc] 33);obtain ⟨bg,hbg⟩:∃ bg,wc.heap.size=bg:=⟨_,rfl⟩
                      rw [hbg] at r7;generalize wc.alloc (.cells #[.int .u8 kd,.int .i64 at_,.int .i64 nn,.int .i64 aa,.string ss,.slice none 0 0,.int .u64 ww,.slice LA q lc] 33)=W7 at *
                      try rw [hbg]
                      have HR7:=Lib.hid r7;have HFX7:=Lib.hid f7;have HRF7:=Lib.hid (HRX.out.far f7 (by simp));have HF57:=Lib.hid ((HF6.out.trans HFX.out (by simp)).trans f7 (by simp));clear r7 f7 hbg x0 x1 x2 x3 x4 x5 x6 x7;have x0:=HR7.out.at (i:=0) rfl;have x2:=HR7.out.at (i:=2) rfl;have x3:=HR7.out.at (i:=3) rfl
                      go_cut [236] from 107 to 250 (fun s236 wx=>s236 = .bool false∧Hid (MM.Far [] W7 wx))
                      case first =>
                        as_aux_lemma =>
                          by_cases hk4:kd=4
                          · subst hk4;obtain ⟨hn0,hn1⟩:=HCK.out.n (.inl rfl);simp only at hn0 hn1
                            have n0:¬ nn < 0:=by omega
                            have n2:¬ ((N.length:Nat):Int)≤nn:=by omega
                            have n3:decide (nn < 0)=false:=by rw [decide_eq_false_iff_not];exact n0
                            have n4:decide (((N.length:Nat):Int)≤nn)=false:=by rw [decide_eq_false_iff_not];exact n2
                            go_wp2;go_quiet ((go_at_call 6;exact quiet_n (HNLW.out _ (HH.out.trans (HG.out.trans (HF57.out.drewN _) (by simp)) (by simp)))))
                            go_wp2;go_meet
                            exact ⟨rfl,Lib.hid ((MM.Far.refl [] W7).drewN _)⟩
                          have z4:(kd == 4)=false:=by simp [hk4]
                          by_cases hk9:kd=9
                          · subst hk9;obtain ⟨hn0,hn1⟩:=HCK.out.n (.inr (.inl rfl));simp only at hn0 hn1
                            have n0:¬ nn < 0:=by omega
                            have n2:¬ ((N.length:Nat):Int)≤nn:=by omega
                            have n3:decide (nn < 0)=false:=by rw [decide_eq_false_iff_not];exact n0
                            have n4:decide (((N.length:Nat):Int)≤nn)=false:=by rw [decide_eq_false_iff_not];exact n2
                            go_wp2;go_quiet ((go_at_call 6;exact quiet_n (HNLW.out _ (HH.out.trans (HG.out.trans (HF57.out.drewN _) (by simp)) (by simp)))))
                            go_wp2;go_meet
                            exact ⟨rfl,Lib.hid ((MM.Far.refl [] W7).drewN _)⟩
                          have z9:(kd == 9)=false:=by simp [hk9]
                          by_cases hk7:kd=7
                          · subst hk7;by_cases hneg:aa < 0
                            · obtain ⟨hn0,hn1⟩:=HCK.out.n (.inr (.inr ⟨rfl,hneg⟩));simp only at hn0 hn1
                              have f5:decide (aa < 0)=true:=by rw [decide_eq_true_iff];exact hneg
                              have n0:¬ nn < 0:=by omega
                              have n2:¬ ((N.length:Nat):Int)≤nn:=by omega
                              have n3:decide (nn < 0)=false:=by rw [decide_eq_false_iff_not];exact n0
                              have n4:decide (((N.length:Nat):Int)≤nn)=false:=by rw [decide_eq_false_iff_not];exact n2
                              go_wp2;go_quiet ((go_at_call 6;exact quiet_n (HNLW.out _ (HH.out.trans (HG.out.trans (HF57.out.drewN _) (by simp)) (by simp)))))
                              go_wp2;go_meet
                              exact ⟨rfl,Lib.hid ((MM.Far.refl [] W7).drewN _)⟩
                            · have f5:decide (aa < 0)=false:=by rw [decide_eq_false_iff_not];exact hneg
                              go_wp2;go_quiet (fail)
                              go_wp2;go_meet
                              exact ⟨rfl,Lib.hid ((MM.Far.refl [] W7).drewN _)⟩
                          have z7:(kd == 7)=false:=by simp [hk7]
                          go_wp2;go_quiet (fail)
                          go_wp2;go_meet
                          exact ⟨rfl,Lib.hid ((MM.Far.refl [] W7).drewN _)⟩
                      case rest =>
                        as_aux_lemma =>
                          obtain ⟨rfl,HF7⟩:=hcut;clear x0 x2 x3;have x7:=(HRF7.out.far HF7.out (by simp)).at (i:=7) rfl;have HFE:=Lib.hid (HF57.out.trans HF7.out (by simp));have HFE7:=Lib.hid (HFX7.out.trans HF7.out (by simp));go_wp2
                          go_loopw [13,240] (fun s13 s240 wr=>∃ jj:Nat,jj≤q∧s240 = .int .i64 (jj:Int)∧Hid (Td wr w3.heap.size s13 (qs++(l.take jj).map fun p=>((p,L',.slice RA' n' rc'):Pc)))∧Hid (MM.Far [] w3 wr)∧Hid (Sl wr s13.ownBlock.toList (.slice RA' n' rc') (ints (L').reverse))) (fun _ s240 _=>q - (intOf s240).toNat)
                          case atStart=>exact ⟨0,by omega,rfl,Lib.hid (by rw [List.take_zero,List.map_nil,List.append_nil];exact HTQ.out.far (HFE.out)),Lib.hid (HG.out.trans (HFE.out) (by simp)),Lib.hid (HS'.out.far HFE7.out (by simp))⟩
                          case round =>
                            clear HTQ HG x7;obtain ⟨jj,hjj,rfl,hTd,hG,hSl⟩:=hrel;by_cases hlq:jj < q
                            · have hj2:jj < l.length:=by rw [HQ.out];exact hlq
                              obtain ⟨gl,ol,rfl,hgl,hcl⟩:=HI.out.far hG.out jj hj2;have htk:l.take (jj+1)=l.take jj++[l[jj]]:=by rw [List.take_succ_eq_append_getElem hj2]
                              have hln:(qs++(l.take jj).map fun p=>((p,L',.slice RA' n' rc'):Pc)).length=n1+jj:=by rw [List.length_append,List.length_map,List.length_take,HN1.out];omega
                              generalize l[jj]=pv at *;have HTK:=Lib.hid htk;have hB:=hG.out.size;have HLN:=Lib.hid hln;obtain ⟨TA2,tc2,e13⟩:=hTd.out.form;rw [HLN.out] at e13;subst e13;generalize hps:(qs++(l.take jj).map fun p=>((p,L',.slice RA' n' rc'):Pc))=ps2 at *;have HPS:=Lib.hid hps;clear hj2 htk hln hps
                              go_wp2_with (first
                                | (at_builtin;refine Td.push (pv,L',.slice RA' n' rc') hTd.out hB (by have:=HLN.out;omega) hSl.out rfl (.tmp 244) (.tmp 248) rfl rfl rfl ?_;intro A5 c5 w6 hT5 hF5 hS5 hb5;rw [HLN.out] at hT5 hS5 ⊢;have HT5:=Lib.hid hT5;have HS5:=Lib.hid hS5;have HF5:=Lib.hid (hG.out.trans hF5 (fun b hb hl=>by have:=hb5 b (by simpa using hb);omega));clear hT5 hF5 hb5 hS5))
                              go_roundw
                              case rel=>exact ⟨jj+1,by omega,by go_num,Lib.hid (by rw [HTK.out,List.map_append,← List.append_assoc,HPS.out];exact HT5.out),HF5,HS5⟩
                              case measure=>simp [intOf];omega
                            · obtain rfl:jj=q:=by omega
                              have e1:l.take jj=l:=List.take_of_length_le (by rw [HQ.out];exact Nat.le_refl _);have HTE:=Lib.hid (e1 ▸ hTd.out);have HGE:=Lib.hid hG.out;clear e1 hTd hG hSl;go_wp2;go_roundw
                              case rel=>exact ⟨seen+1,_,by go_num,Lib.hid (by rw [List.map_append,List.map_map];exact HNY.out),HTE,HGE,Lib.hid (nl_app HNQ.out (HNV'.out))⟩
                              case measure=>simp [intOf];omega
end SM
end Go.Proofs.YtodjaabcjojlkaaDoor
