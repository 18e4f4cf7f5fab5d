/-
  Several texts in one: GenGen,GenOf,GenSame,GenSh,GenL1.
-/
import Derived.Test.YtehgmmbdlnginaaGreatDoorQGenAf2
import Derived.Test.YtehgmmbdlnginaaGreatDoorQGenNb
namespace Go.Proofs.YtehgmmbdlnginaaGreatDoor
open Go.RowKit
set_option linter.unusedVariables false
namespace GW
open LX SX RX RW6 EX KP SC GP SM
open EW (Sl Bx)
structure Rt (row:List Rf) (tops:List Nat):Prop where
  rok:Rok row
  tlt:∀ t∈tops,t < row.length
  nd:(row.flatMap (·.l)++tops).Nodup
  few:row.length≤1000000000
  fl:∀ f∈row,f.l.length≤100000
  tl:tops.length≤100000
  sum:(tops.map (SC.sz row row.length)).sum≤128160000
  blocks:(genB row tops).length < 1000000000
  wb:∀ b∈genB row tops,KW.Wb b
  ok:check (genB row tops)=(0,0,0)
theorem text_sum {s:ByteArray} (hs:s.size≤1000) {N:List ByteArray} {row:List Rf} {l:List Nat} (h:ofS s = .ok (N,row,l)):(l.map (SC.sz row row.length)).sum=row.length:=by
  have T:=tx_ok s hs;rw [ofS_eq] at h;have h1:=(tops_ind T.gd (P:=fun R _=>Dn R) (fun R p s f R' ps N' s' l hN ht e _ hp=>dn_step T.gd R p s f R' ps N' s' l hN ht e hp) T.fms.tlt h).1;have D:=parts_dn h1;have:=D.sz [] row.length D.lt;rw [List.append_nil] at this;simpa using this
def rowOf (s:ByteArray):List Rf:=match ofS s with | .error _=>[] | .ok r=>r.2.1
def topOf (s:ByteArray):List Nat:=match ofS s with | .error _=>[] | .ok r=>r.2.2
def errOf (s:ByteArray):Int:=match ofS s with | .error x=>x.2.1 | .ok _=>0
theorem rt_nil:Rt [] []:=by
  refine ⟨(fun i hi=>by simp at hi),(fun t ht=>by cases ht),List.nodup_nil,by simp,(fun f hf=>by cases hf),by simp,by simp,by decide,(fun b hb=>?_),by decide +kernel⟩
  have e:genB [] []=[⟨0,[ki 1 0 0 26,ki 16 0 0 0]⟩]:=rfl;rw [e,List.mem_singleton] at hb;subst hb;refine ⟨by simp,fun x hx=>?_⟩
  simp only [List.mem_cons,List.not_mem_nil,or_false] at hx
  rcases hx with rfl | rfl
  · exact wf_ki (by omega) (by omega) (by omega) (by unfold WP.U;omega)
  · exact wf_ki (by omega) (by omega) (by omega) u0
theorem rt_of (s:ByteArray) (hs:s.size≤1000):Rt (rowOf s) (topOf s):=by
  unfold rowOf topOf;cases h:ofS s with
  | error x=>exact rt_nil
  | ok r =>
    obtain ⟨N,row,l⟩:=r;obtain ⟨h1,h2,h3⟩:=forms_ok hs h;obtain ⟨h4,h5,h6⟩:=scope_few hs h;have h7:=text_sum hs h;obtain ⟨h8,h9⟩:=text_bo hs h h7;exact ⟨h1,h2,h3,by simp only;omega,h5,h6,by simp only;omega,h8,h9,text_check hs h⟩
def GpQ (w:World) (bs:List Kb) (e:Ending) (w':World):Prop:=∃ A c,e = .returned (.tuple #[.slice A bs.length c,.int .i64 0])∧KW.Br w' [] A bs∧MM.Far [] w w'
theorem fr_lens {row:List Rf} (h:∀ f∈row,f.l.length≤100000) (i:Nat):(rfAt row i).l.length≤100000:=by
  rcases rf_cases row i with ⟨hi,e⟩ | e
  · rw [e];exact h _ (List.getElem_mem hi)
  · rw [e];simp [rf0]
set_option maxRecDepth 20000 in
set_option maxHeartbeats 4000000 in
theorem gen_any {w:World} {A T:Option Addr} {n c tn tc:Nat} {row:List Rf} {tops:List Nat} (hT:KW.TT w) (R:Rt row tops) (hn:row.length=n) (htn:tops.length=tn) (hF:Fr w [] (.slice A n c) row) (hS:Sl w [] (.slice T tn tc) (ints tops)) :
    Calls Tryz.prog 11 #[.slice A n c,.slice T tn tc] w (GpQ w (genB row tops)):=by
  have HA:=Lib.hid (areForms_any (c:=c) (tc:=tc) hT.at_ hT.pt hF hn (by have:=R.few;omega) R.rok R.nd R.tlt R.fl (rd_sl hS) htn R.tl);have HG:=Lib.hid (fun (W:World) (f:MM.Far [] w W)=>generate_any (w:=W) R.rok R.tlt (hF.far f (by simp)) (fr_lens R.fl) (by have:=R.sum;omega) (hS.far f (by simp)) htn (by have:=R.tl;omega));have HC:=Lib.hid (fun (W:World) (A:Option Addr) (c:Nat) (f:MM.Far [] w W) (h:KW.Br W [] A (genB row tops))=>KW.check_any (genB row tops) _ rfl R.blocks R.wb A c W (hT.far f) h);rw [R.ok] at HC;generalize genB row tops=bs at *;clear hT hF hS R;go_enter Tryz.func11,Tryz.ntmps11
  go_wp2_with (first
    | (go_at_call 20;refine HA.out.mono ?_;rintro e w1 ⟨rfl,hF1⟩;have HF1:=Lib.hid hF1;clear hF1)
    | (go_at_call 21;refine (HG.out _ HF1.out).mono ?_;rintro e w2 ⟨gA,gc,rfl,hB2,hF2⟩;have HF2:=Lib.hid (HF1.out.trans hF2 (by simp));have HB2:=Lib.hid hB2;clear hF2 hB2)
    | (go_at_call 13;refine (HC.out _ _ _ HF2.out HB2.out).mono ?_;rintro e w3 ⟨rfl,hF3⟩;have HF3:=Lib.hid hF3;clear hF3))
  refine bodyPost_ret (v:=.tuple #[.slice gA bs.length gc,.int .i64 0]) (by simp [results,Tryz.results11,go_sem]) rfl ?_
  exact ⟨gA,gc,rfl,HB2.out.far HF3.out (by simp),HF2.out.trans HF3.out (by simp)⟩
end GW
end Go.Proofs.YtehgmmbdlnginaaGreatDoor
namespace Go.Proofs.YtehgmmbdlnginaaGreatDoor
open Go.RowKit
set_option linter.unusedVariables false
namespace GW
open LX SX RX RW6 EX KP SC GP SM SR
open EW (Sl Bx)
def badOf (s:ByteArray):Int:=max (max (rdE s) (exE s)) (errOf s)
def OfG (w:World) (s:ByteArray) (e:Ending) (w':World):Prop:=∃ RA rc TA tc,e = .returned (.tuple #[.slice RA (rowOf s).length rc,.slice TA (topOf s).length tc,.int .i64 (badOf s)])∧MM.Far [] w w'∧Fr w' [] (.slice RA (rowOf s).length rc) (rowOf s)∧Sl w' [] (.slice TA (topOf s).length tc) (ints (topOf s))
theorem fr_of {w:World} {A:Option Addr} {c:Nat} {row:List Rf} (h:RfS w A row):Fr w [] (.slice A row.length c) row:=by
  refine ⟨A,c,rfl,fun k hk=>?_⟩
  obtain ⟨b,o,LA,lc,e,hb,c0,c1,c2,c3,c4,c5,c6,c7,hI⟩:=h k hk;exact ⟨b,o,LA,lc,e,by simp,hb,c0,c1,c2,c3,c4,c5,c6,c7,hI⟩
theorem sl_nil {w:World}:Sl w [] (.slice none 0 0) (ints []):=⟨none,0,rfl,Nat.le_refl _,⟨by unfold maxLen;omega,fun g o sp cs fz h=>by cases h⟩,fun k u hu=>by simp [ints] at hu⟩
theorem ds_of {s:ByteArray} {w w':World} {e:Ending} (h:DsQ w (ofS s) e w'):∃ RA rc TA tc nv x,e = .returned (.tuple #[.slice RA (rowOf s).length rc,.slice TA (topOf s).length tc,nv,.int .i64 x,.int .i64 (errOf s)])∧MM.Far [] w w'∧Fr w' [] (.slice RA (rowOf s).length rc) (rowOf s)∧Sl w' [] (.slice TA (topOf s).length tc) (ints (topOf s)):=by
  unfold rowOf topOf errOf;cases hX:ofS s with
  | error x =>
    rw [hX] at h;obtain ⟨NA,nc,rfl,hF,-⟩:=h;exact ⟨none,0,none,0,_,_,rfl,hF,⟨none,0,rfl,fun k hk=>by simp at hk⟩,sl_nil⟩
  | ok r =>
    rw [hX] at h;obtain ⟨RA,rc,TA,tc,NA,nc,rfl,hF,hR,-,hT,-⟩:=h;exact ⟨RA,rc,TA,tc,_,_,rfl,hF,fr_of hR,hT⟩
set_option maxRecDepth 20000 in
set_option maxHeartbeats 4000000 in
theorem of_any (s:ByteArray) (hs:s.size≤1000) (w:World):Calls Tryz.prog 10 #[.string s] w (OfG w s):=by
  have HR:=Lib.hid (sit_any s hs w);have HD:=Lib.hid (fun (w:World) (dv fv tv:Value) (h:Sit w s dv fv tv)=>dtext_any s hs h);go_enter Tryz.func10,Tryz.ntmps10
  go_wp2_with (first
    | (go_at_call 17;refine HR.out.mono ?_;rintro e w1 ⟨dv,tv,x1,rfl,hF1,hE1⟩;have HF1:=Lib.hid hF1;have HE1:=Lib.hid hE1;clear hF1 hE1)
    | (go_at_call 18;refine (HE1.out _ (MM.Far.refl _ _)).mono ?_;rintro e w2 ⟨fv,tv2,x3,rfl,hF2,hS2⟩;have HF2:=Lib.hid (HF1.out.trans hF2 (by simp));have HC2:=Lib.hid (HD.out _ _ _ _ hS2);clear hF2 hS2))
  refine HC2.out.mono ?_
  intro e w3 hQ;obtain ⟨RA,rc,TA,tc,nv,x,rfl,hF3,hR3,hT3⟩:=ds_of hQ;have HF3:=Lib.hid (HF2.out.trans hF3 (by simp));have HR3:=Lib.hid hR3;have HT3:=Lib.hid hT3;clear hF3 hR3 hT3 hQ;have fin:∀ {a:Act} {k:Int},k=badOf s→a.defers=[]→(results Tryz.f10 a.tmps).run Tryz.prog w3 = .ok (.tuple #[.slice RA (rowOf s).length rc,.slice TA (topOf s).length tc,.int .i64 k]) w3→bodyPost Tryz.prog Tryz.f10 (OfG w s) .ret a w3:=fun hk hd hr=>bodyPost_ret hr hd ⟨RA,rc,TA,tc,by rw [hk],HF3.out,HR3.out,HT3.out⟩
  unfold badOf at fin;generalize errOf s=e3 at *;generalize rdE s=e1 at *;generalize exE s=e2 at *;by_cases h1:e1 < e2
  · by_cases h2:e2 < e3
    · go_wp2_with (fail)
      exact fin (k:=e3) (by omega) rfl (by simp [results,Tryz.results10,go_sem])
    · go_wp2_with (fail)
      exact fin (k:=e2) (by omega) rfl (by simp [results,Tryz.results10,go_sem])
  · by_cases h2:e1 < e3
    · go_wp2_with (fail)
      exact fin (k:=e3) (by omega) rfl (by simp [results,Tryz.results10,go_sem])
    · go_wp2_with (fail)
      exact fin (k:=e1) (by omega) rfl (by simp [results,Tryz.results10,go_sem])
end GW
end Go.Proofs.YtehgmmbdlnginaaGreatDoor
namespace Go.Proofs.YtehgmmbdlnginaaGreatDoor
open Go.RowKit
set_option linter.unusedVariables false
namespace GW
open LX SX RX RW6 EX KP SC GP SM SR
open EW (Sl Bx)
theorem ir_at {w:World} {A:Option Addr} {l:List Ki} (h:KW.Ir w [] A l) {i:Nat} {x:Ki} (hx:l[i]? = some x):∃ b o,A=some ⟨b,o,none⟩∧b < w.heap.size∧w.cell? ⟨b,o+i*4,none⟩=some (.int .u8 x.op)∧w.cell? ⟨b,o+i*4+1,none⟩=some (.int .i64 x.a)∧w.cell? ⟨b,o+i*4+2,none⟩=some (.int .i64 x.b)∧w.cell? ⟨b,o+i*4+3,none⟩=some (.int .u64 x.w):=by
  obtain ⟨b,o,e,_,hb,hc⟩:=h i x hx;exact ⟨b,o,e,hb,hc 0 _ rfl,hc 1 _ rfl,hc 2 _ rfl,hc 3 _ rfl⟩
theorem br_at {w:World} {A:Option Addr} {l:List Kb} (h:KW.Br w [] A l) {i:Nat} {x:Kb} (hx:l[i]? = some x):∃ b o A' c,A=some ⟨b,o,none⟩∧b < w.heap.size∧w.cell? ⟨b,o+i*2,none⟩=some (num x.many)∧w.cell? ⟨b,o+i*2+1,none⟩=some (.slice A' x.l.length c)∧x.l.length≤c∧c≤maxLen∧KW.Ir w [] A' x.l:=by
  obtain ⟨b,o,A',c,e,_,hb,c0,c1,c2,c3,c4⟩:=h i x hx;exact ⟨b,o,A',c,e,hb,c0,c1,c2,c3,c4⟩
set_option maxRecDepth 20000 in
set_option maxHeartbeats 8000000 in
theorem same_any {w:World} {A B:Option Addr} {n c d:Nat} {l:List Kb} (hn:l.length=n) (hb:n < 1000000000) (hl:∀ b∈l,b.l.length < 1000000000) (hA:KW.Br w [] A l) (hB:KW.Br w [] B l) :
    Calls Tryz.prog 14 #[.slice A n c,.slice B n d] w fun e w'=>e = .returned (.bool true)∧MM.Far [] w w':=by
  have HN:=Lib.hid hn;have HL:=Lib.hid hl;have HA:=Lib.hid hA;have HB:=Lib.hid hB;have H0:=Lib.hid (MM.Far.refl [] w);clear hn hl hA hB;go_enter Tryz.func14,Tryz.ntmps14
  go_wp2_with (fail)
  go_loopw [5] (fun s5 wr=>∃ k:Nat,k≤n∧s5=num k∧Hid (MM.Far [] w wr)) (fun s5 _=>n - (intOf s5).toNat)
  case atStart=>exact ⟨0,by omega,rfl,H0⟩
  case round =>
    obtain ⟨k,hk,rfl,hF⟩:=hrel;by_cases hlt:k < n
    · have hkl:k < l.length:=by rw [HN.out];exact hlt
      have hk1:=List.getElem?_eq_getElem hkl;have hlen:=HL.out _ (List.getElem_mem hkl);obtain ⟨gA,oA,lA,cA,rfl,hgA,a0,a1,-,-,iA⟩:=br_at HA.out hk1;obtain ⟨gB,oB,lB,cB,rfl,hgB,b0,b1,-,-,iB⟩:=br_at HB.out hk1;generalize l[k]=x at *;obtain ⟨many,xl⟩:=x
      dsimp only at *
      obtain ⟨m,hm⟩:∃ m,xl.length=m:=⟨_,rfl⟩
      rw [hm] at a1 b1 hlen;have A0:=Lib.hid a0;have A1:=Lib.hid a1;have B0:=Lib.hid b0;have B1:=Lib.hid b1;have a0:=far_cell hF.out A0.out hgA;have a1:=far_cell hF.out A1.out hgA;have b0:=far_cell hF.out B0.out hgB;have b1:=far_cell hF.out B1.out hgB;have HM:=Lib.hid hm;have IA:=Lib.hid iA;have IB:=Lib.hid iB;clear hm iA iB hk1
      go_wp2_with (fail)
      go_quiet (fail)
      go_wp2_with (fail)
      have hF0:Hid (MM.Far [] w (wr.drewN nq)):=Lib.hid (hF.out.drewN _);clear a0 a1 b0 b1
      go_loopw [6] (fun s6 wz=>∃ j:Nat,j≤m∧s6=num j∧Hid (MM.Far [] w wz)) (fun s6 _=>m - (intOf s6).toNat)
      case atStart=>exact ⟨0,by omega,rfl,hF0⟩
      case round =>
        obtain ⟨j,hj,rfl,hFj⟩:=hrel;have a0:=far_cell hFj.out A0.out hgA;have a1:=far_cell hFj.out A1.out hgA;have b0:=far_cell hFj.out B0.out hgB;have b1:=far_cell hFj.out B1.out hgB;by_cases hjl:j < m
        · have hjx:j < xl.length:=by rw [HM.out];exact hjl
          obtain ⟨g1,o1,rfl,hg1,p0,p1,p2,p3⟩:=ir_at IA.out (List.getElem?_eq_getElem hjx);obtain ⟨g2,o2,rfl,hg2,q0,q1,q2,q3⟩:=ir_at IB.out (List.getElem?_eq_getElem hjx);have p0:=far_cell hFj.out p0 hg1;have p1:=far_cell hFj.out p1 hg1;have p2:=far_cell hFj.out p2 hg1;have p3:=far_cell hFj.out p3 hg1;have q0:=far_cell hFj.out q0 hg2;have q1:=far_cell hFj.out q1 hg2;have q2:=far_cell hFj.out q2 hg2;have q3:=far_cell hFj.out q3 hg2;generalize xl[j]=y at *;obtain ⟨yo,ya,yb,yw⟩:=y
          dsimp only at *
          go_wp2_with (fail)
          go_quiet (fail)
          go_wp2_with (fail)
          go_roundw
          case rel=>exact ⟨j+1,by omega,by go_num,Lib.hid (hFj.out.drewN _)⟩
          case measure=>simp [intOf];omega
        · obtain rfl:j=m:=by omega
          go_wp2_with (fail)
          go_roundw
          case rel=>exact ⟨k+1,by omega,by go_num,hFj⟩
          case measure=>simp [intOf];omega
    · obtain rfl:k=n:=by omega
      go_wp2_with (fail)
      go_ret
      exact ⟨rfl,hF.out⟩
end GW
end Go.Proofs.YtehgmmbdlnginaaGreatDoor
namespace Go.Proofs.YtehgmmbdlnginaaGreatDoor
open Go.RowKit
set_option linter.unusedVariables false
namespace GW
open LX SX RX RW6 EX KP SC GP SM SR
open EW (Sl Bx sz_alloc row_new)
def shT:ByteArray:=⟨#[40,100,101,102,105,110,101,32,120,32,49,41,32,40,105,102,32,120,32,49,32,50,41]⟩
def shL:List Ki:=[ki 3 0 0 0,ki 9 4 0 0,ki 1 0 0 8,ki 16 0 0 0,ki 1 0 0 16,ki 16 0 0 0]
theorem sh_top:topOf shT=[1,5]:=by kernel_rfl
theorem sh_len:(rowOf shT).length=6:=by kernel_rfl
theorem sh_gen:genB (rowOf shT) [5]=[⟨0,shL⟩]:=by kernel_rfl
theorem sh_rt:Rt (rowOf shT) [5]:=by
  have h:=rt_of shT (show (23:Nat)≤1000 by omega);have h3:=h.nd;have h7:=h.sum;rw [sh_top] at h3 h7;refine ⟨h.rok,fun t ht=>by rw [List.mem_singleton] at ht;rw [sh_len];omega,?_,h.few,h.fl,by decide,?_,by rw [sh_gen];decide,fun b hb=>?_,by rw [sh_gen];decide +kernel⟩
  · refine h3.sublist ?_
    exact List.Sublist.append_left (by simp) _
  · simp only [List.map_cons,List.map_nil,List.sum_cons,List.sum_nil] at h7 ⊢
    omega
  · rw [sh_gen,List.mem_singleton] at hb;subst hb;refine ⟨by decide,fun x hx=>?_⟩
    simp only [shL,List.mem_cons,List.not_mem_nil,or_false] at hx
    rcases hx with rfl | rfl | rfl | rfl | rfl | rfl <;> exact wf_ki (by omega) (by omega) (by omega) (by unfold WP.U;omega)
theorem br_one {w:World} {b A' m c:Nat} {l:List Ki} {n:Int} (hR:MM.Row w b 42 [num n,.slice (some ⟨A',0,none⟩) m c]) (hm:l.length=m) (hc:m≤c∧c≤maxLen) (h:KW.Ir w [] (some ⟨A',0,none⟩) l):KW.Br w [] (some ⟨b,0,none⟩) [⟨n,l⟩]:=by
  intro i x hx;cases i with
  | succ i=>simp at hx
  | zero =>
    simp at hx
    subst hx;subst hm;exact ⟨b,0,_,c,rfl,by simp,hR.lt,hR.at (i:=0) rfl,hR.at (i:=1) rfl,hc.1,hc.2,h⟩
def shC:List Value:=[.int .u8 3,.int .i64 0,.int .i64 0,.int .u64 0,.int .u8 9,.int .i64 4,.int .i64 0,.int .u64 0,.int .u8 1,.int .i64 0,.int .i64 0,.int .u64 8,.int .u8 16,.int .i64 0,.int .i64 0,.int .u64 0,.int .u8 1,.int .i64 0,.int .i64 0,.int .u64 16,.int .u8 16,.int .i64 0,.int .i64 0,.int .u64 0]
theorem sh_same {w:World} {A:Option Addr} {c:Nat} (hA:KW.Br w [] A [⟨0,shL⟩]):Calls Tryz.prog 14 #[.slice A 1 c,.slice (some ⟨w.heap.size+1,0,none⟩) 1 1] ((w.alloc (.cells shC.toArray 44)).alloc (.cells #[.int .i64 0,.slice (some ⟨w.heap.size,0,none⟩) 6 6] 42)) fun e w'=>e = .returned (.bool true)∧MM.Far [] w w':=by
  have f1:=(MM.Far.refl [] w).alloc (.cells shC.toArray 44);have f2:=(MM.Far.refl [] (w.alloc (.cells shC.toArray 44))).alloc (.cells #[.int .i64 0,.slice (some ⟨w.heap.size,0,none⟩) 6 6] 42);have hI:=ir_of (n:=6) (base:=0) (l:=shL) (MO.of_row (size:=4) (MM.Row.new w 44 shC) (Nat.zero_le _) rfl (by unfold maxLen;omega));have hR:=MM.Row.new (w.alloc (.cells shC.toArray 44)) 42 [.int .i64 0,.slice (some ⟨w.heap.size,0,none⟩) 6 6];rw [sz_alloc] at hR;have hB:=br_one (m:=6) (l:=shL) (n:=0) hR rfl ⟨Nat.le_refl _,by unfold maxLen;omega⟩ (hI.far f2 (by simp));exact (same_any (n:=1) rfl (by omega) (fun b hb=>by rw [List.mem_singleton] at hb;subst hb;decide) ((hA.far f1 (by simp)).far f2 (by simp)) hB).mono fun e w' ⟨h1,h2⟩=>⟨h1,(f1.trans f2 (by simp)).trans h2 (by simp)⟩
set_option maxRecDepth 20000 in
set_option maxHeartbeats 4000000 in
theorem shown_any (w:World) (hT:KW.TT w):Calls Tryz.prog 9 #[] w fun e w'=>e = .returned (.bool true)∧MM.Far [] w w':=by
  have HOF:=Lib.hid (of_any shT (show (23:Nat)≤1000 by omega) w);unfold OfG at HOF;rw [sh_top,sh_len] at HOF;have HTT:=Lib.hid hT;clear hT;go_enter Tryz.func9,Tryz.ntmps9
  unfold shT at HOF
  go_wp2_with (first
    | (go_at_call 10;(with_reducible refine HOF.out.mono ?_);rintro e w1 ⟨RA,rc,TA,tc,rfl,hF1,hR1,hS1⟩;obtain ⟨g,o,c',e,d0,hc1,hc2,hg2,hg1,hS2⟩:=Sl.cons (u:=num 1) (vs:=ints [5]) hS1;injection e with e1 e2 e3;subst e1 e3;obtain ⟨TB,hTB⟩:∃ TB,(if tc=1 then some (⟨g,o,none⟩:Addr) else some ⟨g,o+1,none⟩)=TB:=⟨_,rfl⟩;rw [hTB] at hS2;have hsl:=fun W=>slice_one (m:=1) hTB W;have hsl2:∀ W,(Instr.slice 24 (.slice (some ⟨g,o,none⟩) 2 tc) (some (.int .i64 (min 1 2))) none none).run Tryz.prog W = .ok (.slice TB 1 (tc - 1)) W:=hsl;have HF1:=Lib.hid hF1;have HC1:=Lib.hid (gen_any (n:=6) (tn:=1) (HTT.out.far hF1) sh_rt sh_len rfl hR1 hS2);clear hF1 hR1 hS1 hS2 hTB d0 hc1 hc2 hg2 hg1 e2)
    | (go_at_call 11;rw [sh_gen] at HC1;(with_reducible refine HC1.out.mono ?_);rintro e w2 ⟨gA,gc,rfl,hB2,hF2⟩;have HF2:=Lib.hid (HF1.out.trans hF2 (by simp));have HB2:=Lib.hid hB2;clear hF2 hB2)
    | (go_at_call 14;refine (sh_same HB2.out).mono ?_;rintro e w3 ⟨rfl,hF3⟩;have HF3:=Lib.hid (HF2.out.trans hF3 (by simp));clear hF3))
  go_ret
  exact ⟨rfl,HF3.out⟩
end GW
end Go.Proofs.YtehgmmbdlnginaaGreatDoor
namespace Go.Proofs.YtehgmmbdlnginaaGreatDoor
open Go.RowKit
set_option linter.unusedVariables false
namespace GP
open KP SC
theorem places_ok {T:Int} {l:List Ki} (h:Fg T l 0 0 none):0 < l.length∧(∀ (k:Nat) (x:Ki),l[k]? = some x→(x.op=8→(k:Int) < x.a∧x.a < (l.length:Int))∧(x.op=9→∃ (j:Nat) (y:Ki),x.a=((j+1:Nat):Int)∧k < j∧j+1 < l.length∧l[j]? = some y∧(y.op=8∨isEnd y)))∧∃ x,l[l.length - 1]? = some x∧isEnd x:=by
  have hp:=h.pos;obtain ⟨ds,h1,h2,h3⟩:=h.ty;have hT:=h3 l.length (fun k=>ds.getD k 0) (fun k d hk=>by simp only [Nat.zero_add];rw [List.getD_eq_getElem?_getD,hk];rfl) (fun D' e=>by cases e) (by omega);refine ⟨hp,fun k x hx=>⟨fun h8=>?_,fun h9=>?_⟩,?_⟩
  · have:=(hT k x hx).2.2.1 x.a (by unfold succs;simp [h8]);simp only [Nat.zero_add] at this
    exact ⟨this.1,this.2.1⟩
  · obtain ⟨j,y,e,hkj,hj,hy⟩:=h.pl k x hx h9;have:=(hT k x hx).2.2.1 x.a (by unfold succs;simp [h9]);simp only [Nat.zero_add] at this e
    exact ⟨j,y,e,hkj,by have:=this.2.1;omega,hj,hy⟩
  · obtain ⟨a,x,e,hx⟩:=h.en rfl;exact ⟨x,by rw [e];simp,hx⟩
end GP
namespace GW
open LX SX RX RW6 EX KP SC GP SM SR
open EW (Sl Bx sz_alloc row_new)
theorem rt_ty {row:List Rf} {tops:List Nat} (R:Rt row tops):∀ b∈genB row tops,Fg ((genB row tops).length:Nat) b.l 0 0 none:=fun b hb=>(genB_ty R.rok R.tlt b hb).2
set_option maxRecDepth 20000 in
set_option maxHeartbeats 8000000 in
theorem places_law (a0:ByteArray) (W:World) (hT:KW.TT W):Calls Tryz.prog 7 #[.string a0] W fun e w'=>e = .returned (.bool true)∧MM.Far [] W w':=by
  have HSH:=Lib.hid (shown_any W hT);by_cases hs:a0.size≤1000
  · have HOF:=Lib.hid (fun w=>of_any a0 hs w);have R:=rt_of a0 hs;have HG:=Lib.hid (fun (w:World) (A T:Option Addr) (c tc:Nat) (f:MM.Far [] W w) (h1:Fr w [] (.slice A (rowOf a0).length c) (rowOf a0)) (h2:Sl w [] (.slice T (topOf a0).length tc) (ints (topOf a0)))=>gen_any (hT.far f) R rfl rfl h1 h2);have HTY:=Lib.hid (rt_ty R);unfold OfG at HOF;generalize rowOf a0=row at *;generalize topOf a0=tops at *;generalize badOf a0=bad at *;obtain ⟨n,hn⟩:∃ n,(genB row tops).length=n:=⟨_,rfl⟩
    have hb9:=R.blocks;have hbl:=R.wb;rw [hn] at hb9;generalize genB row tops=bs at *;have HN:=Lib.hid hn;have HWB:=Lib.hid hbl;clear hT R hn hbl;have hs2:¬ (1000:Int) < (a0.size:Int):=by omega
    by_cases hb0:bad=0
    case neg =>
      have hb1:(bad != 0)=true:=by simpa using hb0
      go_enter Tryz.func7,Tryz.ntmps7
      go_wp2_with (first
        | (go_at_call 9;(with_reducible refine HSH.out.mono ?_);rintro e w1 ⟨rfl,hF1⟩;have HF1:=Lib.hid hF1;clear hF1)
        | (go_at_call 10;(with_reducible refine (HOF.out _).mono ?_);rintro e w2 ⟨RA,rc,TA,tc,rfl,hF2,hR2,hS2⟩;have HF2:=Lib.hid (HF1.out.trans hF2 (by simp));have HC2:=Lib.hid (HG.out _ _ _ _ _ (HF1.out.trans hF2 (by simp)) hR2 hS2);clear hF2 hR2 hS2)
        | (go_at_call 11;(with_reducible refine HC2.out.mono ?_);rintro e w3 ⟨gA,gc,rfl,hB3,hF3⟩;rw [HN.out];have HF3:=Lib.hid (HF2.out.trans hF3 (by simp));have HB3:=Lib.hid hB3;clear hF3 hB3))
      go_ret
      exact ⟨rfl,HF3.out⟩
    subst hb0;go_enter Tryz.func7,Tryz.ntmps7
    go_wp2_with (first
      | (go_at_call 9;(with_reducible refine HSH.out.mono ?_);rintro e w1 ⟨rfl,hF1⟩;have HF1:=Lib.hid hF1;clear hF1)
      | (go_at_call 10;(with_reducible refine (HOF.out _).mono ?_);rintro e w2 ⟨RA,rc,TA,tc,rfl,hF2,hR2,hS2⟩;have HF2:=Lib.hid (HF1.out.trans hF2 (by simp));have HC2:=Lib.hid (HG.out _ _ _ _ _ (HF1.out.trans hF2 (by simp)) hR2 hS2);clear hF2 hR2 hS2)
      | (go_at_call 11;(with_reducible refine HC2.out.mono ?_);rintro e w3 ⟨gA,gc,rfl,hB3,hF3⟩;rw [HN.out];have HF3:=Lib.hid (HF2.out.trans hF3 (by simp));have HB3:=Lib.hid hB3;clear hF3 hB3))
    have hF30:Hid (MM.Far [] W w3):=HF3;have HBW:=Lib.hid (fun (w:World) (f:MM.Far [] w3 w)=>HB3.out.far f (by simp));have HW3:Hid (MM.Far [] w3 w3):=Lib.hid (MM.Far.refl [] w3)
    go_loopw [43] (fun s43 wr=>∃ k:Nat,k≤n∧s43=num k∧Hid (MM.Far [] w3 wr)) (fun s43 _=>n - (intOf s43).toNat)
    case atStart=>exact ⟨0,by omega,rfl,HW3⟩
    case round =>
      obtain ⟨k,hk,rfl,hF⟩:=hrel;by_cases hlt:k < n
      · have hkl:k < bs.length:=by rw [HN.out];exact hlt
        obtain ⟨g,o,lA,lc,rfl,hg,a0,a1,hc1,hc2,hI⟩:=br_at (HBW.out _ hF.out) (List.getElem?_eq_getElem hkl);obtain ⟨hp,hpl,z,hz,hzE⟩:=places_ok (HTY.out _ (List.getElem_mem hkl));have hwl:=(HWB.out _ (List.getElem_mem hkl)).len;generalize bs[k]=x at *;obtain ⟨many,xl⟩:=x
        dsimp only at *
        obtain ⟨m,hm⟩:∃ m,xl.length=m:=⟨_,rfl⟩
        rw [hm] at a1 hc1 hp hz hwl hpl;have HM:=Lib.hid hm;have HI:=Lib.hid hI;have HPL:=Lib.hid hpl;have HZ:=Lib.hid hz;have HZE:=Lib.hid hzE;have FX:=(MM.Far.refl [] wr).alloc (.cells #[num many,.slice lA m lc] 42);have HX:=Lib.hid (MM.Row.new wr 42 [num many,.slice lA m lc]);have HFX:=Lib.hid (hF.out.trans FX (by simp));have HIX:=Lib.hid (hI.far FX (by simp));have hm0:((m:Int) == 0)=false:=by simp;omega
        clear hm hI hpl hz hzE FX
        go_upto_region 13 with (fail)
        rw [show (wr.alloc (.cells #[.int .i64 many,.slice lA m lc] 42))=(wr.alloc (.cells #[num many,.slice lA m lc] 42)) from rfl];obtain ⟨bx,hbx⟩:∃ bx,wr.heap.size=bx:=⟨_,rfl⟩
        rw [hbx] at HX;rw [hbx];clear a0 a1 hbx;generalize wr.alloc (.cells #[num many,.slice lA m lc] 42)=W1 at *;have x1:=HX.out.at (i:=1) rfl;have HW1:Hid (MM.Far [] W1 W1):=Lib.hid (MM.Far.refl [] W1)
        go_wp2_with (fail)
        go_loopw [54] (fun s54 wz=>∃ j:Nat,j≤m∧s54=num j∧Hid (MM.Far [] W1 wz)) (fun s54 _=>m - (intOf s54).toNat)
        case atStart=>exact ⟨0,by omega,rfl,HW1⟩
        case round =>
          obtain ⟨j,hj,rfl,hFj⟩:=hrel;have y1:=far_cell hFj.out x1 HX.out.lt;by_cases hjl:j < m
          · have hjx:j < xl.length:=by rw [HM.out];exact hjl
            have hjy:=List.getElem?_eq_getElem hjx;obtain ⟨g1,o1,rfl,hg1,p0,p1,p2,p3⟩:=ir_at (HIX.out.far hFj.out (by simp)) hjy;obtain ⟨q8,q9⟩:=HPL.out j _ hjy;generalize xl[j]=y at *;obtain ⟨yo,ya,yb,yw⟩:=y
            dsimp only at *
            have FY:=(MM.Far.refl [] wr).alloc (.cells #[.int .u8 yo,num ya,num yb,.int .u64 yw] 44);have HFY:Hid (MM.Far [] W1 (wr.alloc (.cells #[.int .u8 yo,num ya,num yb,.int .u64 yw] 44))):=Lib.hid (hFj.out.trans FY (by simp));have hjm:(j:Int)+1 < 1000000001:=by omega
            have HYR:=Lib.hid (MM.Row.new wr 44 [.int .u8 yo,num ya,num yb,.int .u64 yw]);have HY1:=Lib.hid (far_cell FY y1 (Nat.lt_of_lt_of_le HX.out.lt hFj.out.size));clear hjy FY
            go_upto_region 16 with (fail)
            rw [show (wr.alloc (.cells #[.int .u8 yo,.int .i64 ya,.int .i64 yb,.int .u64 yw] 44))=wr.alloc (.cells #[.int .u8 yo,num ya,num yb,.int .u64 yw] 44) from rfl];obtain ⟨yq,hyq⟩:∃ yq,wr.heap.size=yq:=⟨_,rfl⟩
            rw [hyq] at HYR;rw [hyq];clear p0 p1 p2 p3 y1 hyq;generalize wr.alloc (.cells #[.int .u8 yo,num ya,num yb,.int .u64 yw] 44)=W2 at *;have p0:=HYR.out.at (i:=0) rfl;have p1:=HYR.out.at (i:=1) rfl;have y1:=HY1.out;by_cases k8:yo=8
            · subst k8;obtain ⟨r1,r2⟩:=q8 rfl;have r3:¬ ya≤(j:Int):=by omega
              have r4:¬ (m:Int)≤ya:=by omega
              clear q8 q9
              go_wp2_with (fail)
              go_roundw
              case rel=>exact ⟨j+1,by omega,by go_num,HFY⟩
              case measure=>simp [intOf];omega
            · have e8:(yo == 8)=false:=by simpa using k8
              clear q8;by_cases k9:yo=9
              · subst k9;obtain ⟨t,y2,r1,r2,r3,r4,r5⟩:=q9 rfl;obtain ⟨g2,o2,e2,hg2,t0,-⟩:=ir_at (HIX.out.far HFY.out (by simp)) r4;injection e2 with e2;injection e2 with e2 e3;subst e2 e3;have r6:ya - 1=(t:Int):=by omega
                have r7:¬ ya≤(j:Int)+1:=by omega
                have r8:¬ (m:Int)≤ya:=by omega
                have r9:(0:Int)≤(t:Int):=by omega
                have r10:(t:Int) < (m:Int):=by omega
                clear q9 r1 r4;unfold isEnd at r5;generalize y2.op=op at *
                rcases r5 with rfl | rfl | rfl | rfl
                all_goals
                  go_wp2_with (fail)
                  go_roundw
                  case rel=>exact ⟨j+1,by omega,by go_num,HFY⟩
                  case measure=>simp [intOf];omega
              · have e9:(yo == 9)=false:=by simpa using k9
                clear q9
                go_wp2_with (fail)
                go_roundw
                case rel=>exact ⟨j+1,by omega,by go_num,HFY⟩
                case measure=>simp [intOf];omega
          · obtain rfl:j=m:=by omega
            obtain ⟨t,ht⟩:∃ t,j - 1=t:=⟨_,rfl⟩
            have hz:=HZ.out;rw [ht] at hz;obtain ⟨g2,o2,rfl,hg2,t0,-⟩:=ir_at (HIX.out.far hFj.out (by simp)) hz;have hzE:=HZE.out;unfold isEnd at hzE;have r6:(j:Int) - 1=(t:Int):=by omega
            have r9:(0:Int)≤(t:Int):=by omega
            have r10:(t:Int) < (j:Int):=by omega
            have HFE:Hid (MM.Far [] w3 wr):=Lib.hid (HFX.out.trans hFj.out (by simp));generalize z.op=op at *;clear hz ht
            rcases hzE with rfl | rfl | rfl
            all_goals
              go_wp2_with (fail)
              go_roundw
              case rel=>exact ⟨k+1,by omega,by go_num,HFE⟩
              case measure=>simp [intOf];omega
      · obtain rfl:k=n:=by omega
        go_wp2_with (fail)
        go_ret
        exact ⟨rfl,HF3.out.trans hF.out (by simp)⟩
  · have hs2:(1000:Int) < (a0.size:Int):=by omega
    go_enter Tryz.func7,Tryz.ntmps7
    go_wp2_with (first
      | (go_at_call 9;(with_reducible refine HSH.out.mono ?_);rintro e w1 ⟨rfl,hF1⟩;have HF1:=Lib.hid hF1;clear hF1))
    go_ret
    exact ⟨rfl,HF1.out⟩
end GW
end Go.Proofs.YtehgmmbdlnginaaGreatDoor
