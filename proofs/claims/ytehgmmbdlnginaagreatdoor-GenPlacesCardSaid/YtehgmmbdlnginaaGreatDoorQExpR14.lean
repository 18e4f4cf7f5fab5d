/-
  Several texts in one: ExpR13,ExpR14.
-/
import Derived.Test.YtehgmmbdlnginaaGreatDoorQExpR12
namespace Go.Proofs.YtehgmmbdlnginaaGreatDoor
open Go.RowKit
set_option linter.unusedVariables false
namespace EW
open LX SX RW6 EX
open RX (Nd)
section
variable {w0 w w1:World} {E:List Nat} {q:Nat} {b o:Nat} {n c:Nat} {ns:List Nd} {dv fv:Value} {X:Except Int (List Fm)} {B:Nat}
theorem sput_fn1d {p:Pt} {v:Nat} (hok:Ok ns) (h:Stx w0 w E q dv fv (fst' (bnd X (exq ns p))) B) (hk:∀ st k,bnd X (exq ns p) = .ok (st,k)→v=k) (hB:B≤200000) (a:Int) (s:ByteArray) :
    Calls Tryz.prog 56 #[ptr q,.agg #[.int .u8 6,.int .i64 a,.int .i64 0,.int .i64 0,.string ⟨#[]⟩,.slice (some ⟨w.heap.size,0,none⟩) 1 1,.int .u64 0,.slice (some ⟨w.heap.size+1,0,none⟩) 1 1]]
      ((w.alloc (.cells #[.string s] 9)).alloc (.cells #[.int .i64 ((v:Nat):Int)] 3)).drew (OutQ w0 w E q dv fv (bnd X (exq ns (.fn a [s] p))) (B+1)) :=
  (sput_fn1 hok (h.to (MM.Far.refl [] w).drew) hk hB a s rfl rfl).mono fun e w1 hQ=>hQ.from (Fr.quiet (MM.Far.refl [] w).drew)
theorem sput_fn2d {p:Pt} {v:Nat} (hok:Ok ns) (h:Stx w0 w E q dv fv (fst' (bnd X (exq ns p))) B) (hk:∀ st k,bnd X (exq ns p) = .ok (st,k)→v=k) (hB:B≤200000) (a:Int) (s:ByteArray) :
    Calls Tryz.prog 56 #[ptr q,.agg #[.int .u8 6,.int .i64 a,.int .i64 0,.int .i64 0,.string ⟨#[]⟩,.slice (some ⟨w.heap.size+1,0,none⟩) 1 1,.int .u64 0,.slice (some ⟨w.heap.size,0,none⟩) 1 1]]
      ((w.alloc (.cells #[.int .i64 ((v:Nat):Int)] 3)).alloc (.cells #[.string s] 9)).drew (OutQ w0 w E q dv fv (bnd X (exq ns (.fn a [s] p))) (B+1)) :=
  (sput_fn2 hok (h.to (MM.Far.refl [] w).drew) hk hB a s rfl rfl).mono fun e w1 hQ=>hQ.from (Fr.quiet (MM.Far.refl [] w).drew)
set_option maxHeartbeats 4000000 in
set_option maxRecDepth 20000 in
theorem sstars_any {N:Nat} (HF:FormC w0 q (some ⟨b,o,none⟩) n c ns N) (D:Dta w0 (some ⟨b,o,none⟩) n ns) (a:Int) {t:List Nat} {TA:Option Addr} {tm tc:Nat} (htm:t.length=tm) (ht5:tm≤100000) (htin:∀ i∈t,i < n∧16*T ns i - 8≤N) :
    ∀ (bs vs:List Nat) (w:World) (fv:Value) (X:Except Int (List Fm)) (B:Nat) (PA:Option Addr) (pm pc:Nat) (VA:Option Addr) (vm vc:Nat),bs.length=vs.length→Stx w0 w E q (.slice (some ⟨b,o,none⟩) n c) fv X B→Sl w (E++Zx q fv) (.slice PA pm pc) (ints bs)→Sl w (E++Zx q fv) (.slice VA vm vc) (ints vs) →
    Sl w (E++Zx q fv) (.slice TA tm tc) (ints t)→(∀ p∈bs,p < n)→(∀ p∈vs,p < n∧16*T ns p - 8≤N)→B+sumT ns vs+sumT ns t+1≤200000 →
    Calls Tryz.prog 104 #[ptr q,num a,.slice PA pm pc,.slice VA vm vc,.slice TA tm tc] w (OutQ w0 w E q (.slice (some ⟨b,o,none⟩) n c) fv (bnd X (exq ns (.nested a (bs.map fun i=>(ndAt ns i).s) vs (body a t)))) (B+sumT ns vs+sumT ns t+1)):=by
  intro bs;induction bs with
  | nil =>
    intro vs w fv X B PA pm pc VA vm vc hlen h hp hv ht hpin hvin hB;obtain rfl:vs=[]:=List.eq_nil_of_length_eq_zero (by simpa using hlen.symm);have hm:=hp.len;rw [show (ints ([]:List Nat)).length=0 from rfl] at hm;subst hm;have e:exq ns (.nested a (([]:List Nat).map fun i=>(ndAt ns i).s) [] (body a t))=exq ns (body a t):=funext fun st=>by rw [exq_eq D.ok];rfl
    rw [e];have HC:=Lib.hid (sbody_any HF h D.ok a ht htm ht5 htin (by omega));clear h hp hv ht hpin hvin hlen e HF D;unfold ptr num at *;go_enter Tryz.func104,Tryz.ntmps104
    go_wp2_with (first
      | (go_at_call 100;(with_reducible refine HC.out.mono ?_);rintro e w1 hQ;have HQ:=Lib.hid hQ;obtain ⟨k,fv1,he,-⟩:=hQ;(replace he:e = .returned (.int .i64 ((k:Nat):Int)):=he);subst he))
    go_ret
    exact HQ.out.mono (by omega)
  | cons p bs ih =>
    intro vs w fv X B PA pm pc VA vm vc hlen h hp hv ht hpin hvin hB;obtain ⟨v,vs,rfl⟩:=one (r:=vs) (by rw [← hlen,List.length_cons];omega);obtain ⟨pg,po,c0,e,hc1,hc2,hcs,hs1,-⟩:=Sl.open_ (u:=num p) (vs:=ints bs) hp;injection e with e1 e2 e3;subst e1 e3;obtain ⟨vg,vo,c0,e,hc3,hc4,-,hs2,-⟩:=Sl.open_ (u:=num v) (vs:=ints vs) hv;injection e with e1 e4 e3;subst e1 e3;have hpn:=hpin p (List.mem_cons_self ..);have hvv:=hvin v (List.mem_cons_self ..);have hsx:sumT ns (v::vs)=16*T ns v+sumT ns vs:=by simp [sumT]
    rw [hsx] at hB ⊢;obtain ⟨pm',hpm'⟩:∃ m',(ints bs).length=m':=⟨_,rfl⟩
    obtain ⟨vm',hvm'⟩:∃ m',(ints vs).length=m':=⟨_,rfl⟩
    rw [hpm'] at e2 hs1;rw [hvm'] at e4 hs2;have h0:¬ (pm:Int)=0:=by omega
    have x0:=h.q0;have x5:=hcs 0 (num p) rfl;rw [Nat.add_zero] at x5;have h2:(0:Int) < (pm:Int):=by omega
    have h3:(0:Int) < (vm:Int):=by omega
    have h2n:0 < pm:=by omega
    have h0b:((pm:Int) == 0)=false:=by simpa using (show ¬ pm=0 by omega)
    have hp0:(0:Int)≤(p:Int):=by omega
    have hp1:(p:Int) < (n:Int):=by omega
    have hslp:=fun X'=>slice_ints1 pg po pm' pc pm e2.symm X'
    have hslv:=fun X'=>slice_ints1 vg vo vm' vc vm e4.symm X'
    generalize (if pc=1 then some (⟨pg,po,none⟩:Addr) else some ⟨pg,po+1,none⟩)=SP at hslp hs1;generalize (if vc=1 then some (⟨vg,vo,none⟩:Addr) else some ⟨vg,vo+1,none⟩)=SV at hslv hs2;generalize pc - 1=sp at hslp hs1;generalize vc - 1=sv at hslv hs2;have hlen':bs.length=vs.length:=by simpa using hlen
    have HC1:=Lib.hid (ih vs _ _ _ _ SP pm' sp SV vm' sv hlen' (h.to (MM.Far.refl [] w).drew) (hs1.far (MM.Far.refl [] w).drew (by simp)) (hs2.far (MM.Far.refl [] w).drew (by simp)) (ht.far (MM.Far.refl [] w).drew (by simp)) (fun i hi=>hpin i (List.mem_cons_of_mem _ hi)) (fun i hi=>hvin i (List.mem_cons_of_mem _ hi)) (by omega));have HEX:Hid (exq ns (.nested a ((p::bs).map fun i=>(ndAt ns i).s) (v::vs) (body a t))=_):=Lib.hid (funext fun st=>exq_nest D.ok a (ndAt ns p).s (bs.map fun i=>(ndAt ns i).s) v vs (body a t) st);rw [HEX.out];have HD:=Lib.hid D;have HOK:=Lib.hid D.ok;have HBB:=Lib.hid hB;have HTP:=Lib.hid (T_pos ns v);have HPL:=Lib.hid hp;have HVL:=Lib.hid hv;have HVV:=Lib.hid hvv;have HPN:=Lib.hid hpn;have HFC:=Lib.hid HF;generalize hS:(ndAt ns p).s=s at *;have HSS:=Lib.hid hS;clear h hp hv ht hpin hvin hlen hlen' hcs hs1 hs2 hsx hvv hpn ih hpm' hvm' e2 e4 HEX hc1 hc2 hc3 hc4 HF D hS htin;unfold ptr num at *;go_enter Tryz.func104,Tryz.ntmps104
    go_wp2
    go_region_held3 (fun w'=>w'.cell? ⟨q,0,none⟩=some (.slice (some ⟨b,o,none⟩) n c)∧w'.cell? ⟨pg,po,none⟩=some (.int .i64 (p:Nat))) (first | (with_reducible assumption) | go_keep) (first
      | (go_at_call 104;(with_reducible refine HC1.out.mono ?_);rintro e w1 ⟨k1,fv1,he,hF1,hS1,hk1⟩;(replace he:e = .returned (.int .i64 ((k1:Nat):Int)):=he);subst he
         have hF0:=(Fr.quiet (MM.Far.refl [] w).drew (q:=q) (fv:=fv)).trans hF1;have y0:=hS1.q0;obtain ⟨LB,lb,-,-,-,-,y3,-,-⟩:=hS1.datc HD.out HPN.out;rw [HSS.out] at y3;obtain ⟨g',o',c',e',-,-,hcs,-,-⟩:=Sl.open_ (u:=.int .i64 (p:Nat)) (vs:=ints bs) (hF0.sl HPL.out);injection e' with e1 e2 e3;injection e1 with e1;injection e1 with ea eb;subst ea;subst eb;have c5:=hcs 0 _ rfl;rw [Nat.add_zero] at c5;have hk:w1.cell? ⟨q,0,none⟩=some (.slice (some ⟨b,o,none⟩) n c)∧w1.cell? ⟨pg,po,none⟩=some (.int .i64 (p:Nat)):=⟨y0,c5⟩
         have HP1:=Lib.hid (sput_fn1d HOK.out hS1 hk1 (by have:=HBB.out;have:=HTP.out;omega) a s);have HP2:=Lib.hid (sput_fn2d HOK.out hS1 hk1 (by have:=HBB.out;have:=HTP.out;omega) a s);unfold ptr at HP1 HP2;have HF1:=Lib.hid hF0;clear hF1 hS1 hk1 hcs e2 e3 hF0))
    go_wp2
    go_region_held3 (fun w'=>w'.cell? ⟨q,0,none⟩=some (.slice (some ⟨b,o,none⟩) n c)∧w'.cell? ⟨pg,po,none⟩=some (.int .i64 (p:Nat))∧w'.cell? ⟨b,o+p*5+3,none⟩=some (.string s)) (first | (with_reducible assumption) | go_keep) (first
      | (go_at_call 56;(with_reducible refine HP1.out.mono ?_);rintro e w2 ⟨k2,fv2,he,hF2,hS2,hk2⟩;(replace he:e = .returned (.int .i64 ((k2:Nat):Int)):=he);subst he
         have y0:=hS2.q0;obtain ⟨LB2,lb2,-,-,-,-,y3,-,-⟩:=hS2.datc HD.out HPN.out;rw [HSS.out] at y3;have hF0:=HF1.out.trans hF2;obtain ⟨g',o',c',e',-,-,hcs,-,-⟩:=Sl.open_ (u:=.int .i64 (p:Nat)) (vs:=ints bs) (hF0.sl HPL.out);injection e' with e1 e2 e3;injection e1 with e1;injection e1 with ea eb;subst ea;subst eb;have c5:=hcs 0 _ rfl;rw [Nat.add_zero] at c5;have hk:w2.cell? ⟨q,0,none⟩=some (.slice (some ⟨b,o,none⟩) n c)∧w2.cell? ⟨pg,po,none⟩=some (.int .i64 (p:Nat))∧w2.cell? ⟨b,o+p*5+3,none⟩=some (.string s):=⟨y0,c5,y3⟩
         obtain ⟨g',o',c',e',-,-,hcs2,-,-⟩:=Sl.open_ (u:=.int .i64 (v:Nat)) (vs:=ints vs) (hF0.sl HVL.out);injection e' with e1 e4 e5;injection e1 with e1;injection e1 with ea eb;subst ea;subst eb;have c6:=hcs2 0 _ rfl;rw [Nat.add_zero] at c6;have HC4:=Lib.hid (HFC.out _ _ _ _ _ v false HVV.out.1 HVV.out.2 (by have:=HBB.out;have:=HTP.out;omega) hS2);unfold ptr num at HC4;have HF2:=Lib.hid hF0;have HK2:=Lib.hid hk2;clear hF2 hcs hcs2 e2 e3 e4 e5 hF0 hS2 hk2)
      | (go_at_call 56;(with_reducible refine HP2.out.mono ?_);rintro e w2 ⟨k2,fv2,he,hF2,hS2,hk2⟩;(replace he:e = .returned (.int .i64 ((k2:Nat):Int)):=he);subst he
         have y0:=hS2.q0;obtain ⟨LB2,lb2,-,-,-,-,y3,-,-⟩:=hS2.datc HD.out HPN.out;rw [HSS.out] at y3;have hF0:=HF1.out.trans hF2;obtain ⟨g',o',c',e',-,-,hcs,-,-⟩:=Sl.open_ (u:=.int .i64 (p:Nat)) (vs:=ints bs) (hF0.sl HPL.out);injection e' with e1 e2 e3;injection e1 with e1;injection e1 with ea eb;subst ea;subst eb;have c5:=hcs 0 _ rfl;rw [Nat.add_zero] at c5;have hk:w2.cell? ⟨q,0,none⟩=some (.slice (some ⟨b,o,none⟩) n c)∧w2.cell? ⟨pg,po,none⟩=some (.int .i64 (p:Nat))∧w2.cell? ⟨b,o+p*5+3,none⟩=some (.string s):=⟨y0,c5,y3⟩
         obtain ⟨g',o',c',e',-,-,hcs2,-,-⟩:=Sl.open_ (u:=.int .i64 (v:Nat)) (vs:=ints vs) (hF0.sl HVL.out);injection e' with e1 e4 e5;injection e1 with e1;injection e1 with ea eb;subst ea;subst eb;have c6:=hcs2 0 _ rfl;rw [Nat.add_zero] at c6;have HC4:=Lib.hid (HFC.out _ _ _ _ _ v false HVV.out.1 HVV.out.2 (by have:=HBB.out;have:=HTP.out;omega) hS2);unfold ptr num at HC4;have HF2:=Lib.hid hF0;have HK2:=Lib.hid hk2;clear hF2 hcs hcs2 e2 e3 e4 e5 hF0 hS2 hk2))
    all_goals
      go_wp2_with (first
        | (go_at_call 30;(with_reducible refine HC4.out.mono ?_);rintro e w3 ⟨k3,fv3,he,hF3,hS3,hk3⟩;(replace he:e = .returned (.int .i64 ((k3:Nat):Int)):=he);subst he;have HC5:=Lib.hid (sput_two (k:=10) (a:=a) hS3 HK2.out hk3 (by have:=HBB.out;have:=HTP.out;omega) rfl);unfold ptr at HC5;have HF3:=Lib.hid (HF2.out.trans hF3);clear hF3 hS3 hk3)
        | (go_at_call 56;(with_reducible refine HC5.out.mono ?_);rintro e w4 hQ;have HQ:=Lib.hid (hQ.from HF3.out);obtain ⟨k4,fv4,he,-⟩:=hQ;(replace he:e = .returned (.int .i64 ((k4:Nat):Int)):=he);subst he))
      go_ret
      exact HQ.out.mono (by have:=HTP.out;omega)
end
end EW
end Go.Proofs.YtehgmmbdlnginaaGreatDoor
namespace Go.Proofs.YtehgmmbdlnginaaGreatDoor
open Go.RowKit
set_option linter.unusedVariables false
namespace EW
open LX SX RW6 EX
open RX (Nd)
section
variable {w0 w w1:World} {E:List Nat} {q:Nat} {b o:Nat} {n c:Nat} {ns:List Nd} {dv fv:Value} {X:Except Int (List Fm)} {B:Nat}
set_option maxHeartbeats 4000000 in
set_option maxRecDepth 20000 in
theorem scond_any {N:Nat} (HF:FormC w0 q (some ⟨b,o,none⟩) n c ns N) (D:Dta w0 (some ⟨b,o,none⟩) n ns) (a:Int) :
    ∀ (l:List Nat) (w:World) (fv:Value) (X:Except Int (List Fm)) (B:Nat) (A:Option Addr) (m lc:Nat),Stx w0 w E q (.slice (some ⟨b,o,none⟩) n c) fv X B→Sl w (E++Zx q fv) (.slice A m lc) (ints l) →
    (∀ i∈l,i < n∧16*T ns i - 8≤N)→B+sumT ns l+2≤200000 →
    Calls Tryz.prog 106 #[ptr q,num a,.slice A m lc] w (OutQ w0 w E q (.slice (some ⟨b,o,none⟩) n c) fv (bnd X (exq ns (.cond a l))) (B+sumT ns l+2)):=by
  intro l;induction l with
  | nil =>
    intro w fv X B A m lc h hl hin hB;have hm:=hl.len;rw [show (ints ([]:List Nat)).length=0 from rfl] at hm;subst hm;have HC:=Lib.hid (sbitq_any h (by omega) D.ok a 0);have e:exq ns (.cond a [])=exq ns (.tr a 0):=funext fun st=>by rw [exq_eq D.ok,exq_eq D.ok];rfl
    rw [e];clear h hl hin e;unfold ptr num at *;go_enter Tryz.func106,Tryz.ntmps106
    go_wp2_with (first
      | (go_at_call 57;(with_reducible refine HC.out.mono ?_);rintro e w1 hQ;have HQ:=Lib.hid hQ;obtain ⟨k,fv1,he,-⟩:=hQ;(replace he:e = .returned (.int .i64 ((k:Nat):Int)):=he);subst he))
    go_ret
    exact HQ.out.mono (by omega)
  | cons cl l ih =>
    intro w fv X B A m lc h hl hin hB;obtain ⟨g,oo,c0,e,hc1,hc2,hcs,hs1,-⟩:=Sl.open_ (u:=num cl) (vs:=ints l) hl;injection e with e1 e2 e3;subst e1 e3;have c1:=hcs 0 (num cl) rfl;rw [Nat.add_zero] at c1;have hcl:=hin cl (List.mem_cons_self ..);have hsx:sumT ns (cl::l)=16*T ns cl+sumT ns l:=by simp [sumT]
    rw [hsx] at hB ⊢;have HLI:=Lib.hid (slist_at h D hcl.1 2 2 rfl (by omega));obtain ⟨LB,lb,hb,g0,g1,g2,g3,g4,hSd⟩:=h.datc D hcl.1;have hp0:(0:Int)≤(cl:Int):=by omega
    have hp1:(cl:Int) < (n:Int):=by omega
    have x0:=h.q0;have h2:(0:Int) < (m:Int):=by omega
    have h2n:0 < m:=by omega
    have h0b:((m:Int) == 0)=false:=by simpa using (show ¬ m=0 by omega)
    have h0:¬ (m:Int)=0:=by omega
    have hT:=T_all D.ok cl;have hEV:∀ st,exq ns (.cond a (cl::l)) st=onPl (exq ns) (condP ns a (cl::l)) st:=fun st=>exq_eq D.ok _ _
    by_cases hd:(ndAt ns cl).kind=4∧2≤(ndAt ns cl).l.length
    · rw [decide_eq_true hd] at HLI;obtain ⟨x,y,t,hxy⟩:=two hd.2;have hcond:condP ns a (cl::l)=if (ndAt ns x).s≠nElse then choosePl a (.dat x) (body (ndAt ns cl).at_ (y::t)) (.cond a l) else if l≠[] then .bad (ndAt ns cl).at_ else .ins (body (ndAt ns cl).at_ (y::t)):=by
        unfold condP;simp only []
        rw [if_neg (by omega),hxy];rfl
      have HWR:=Lib.hid (fun (w':World) (f:MM.Far [] w w')=>swrong_any (h.to f) D.nd D.len hcl.1 (D.at0 cl));rw [hxy] at hSd g4 hT;rw [hd.1] at g0;have hx:=D.kid (i:=cl) (p:=x) (by rw [hxy];simp);have hxT:=T_kid D.ok (i:=cl) (p:=x) (by rw [hxy];simp);have hyt:∀ i∈y::t,i < n∧16*T ns i - 8≤N:=fun i hi=>⟨D.kid (i:=cl) (p:=i) (by rw [hxy];exact List.mem_cons_of_mem _ hi),by have:=T_kid D.ok (i:=cl) (p:=i) (by rw [hxy];exact List.mem_cons_of_mem _ hi);have:=hcl.2;omega⟩
      have hfew:=D.few cl;rw [hxy] at hfew;obtain ⟨LC,lc2,-,y0,y1,y2,y3,y4,-⟩:=h.datc D hx;obtain ⟨gd,od,c0,e,hc3,hc4,hcsd,hs3,-⟩:=Sl.open_ (u:=num x) (vs:=ints (y::t)) hSd;injection e with e1 e5 e3;subst e1 e3;have k0:=hcsd 0 (num x) rfl;rw [Nat.add_zero] at k0;have hx0:(0:Int)≤(x:Int):=by omega
      have hx1:(x:Int) < (n:Int):=by omega
      have hlf:=D.s3 x;rw [wts_cons] at hT;obtain ⟨pm',hpm'⟩:∃ m',(ints (y::t)).length=m':=⟨_,rfl⟩
      rw [hpm'] at e5 hs3;have hpl:(y::t).length=pm':=by rw [← hpm',ints_len]
      have hslD:=fun X'=>slice_ints1 gd od pm' lb _ e5.symm X'
      generalize (if lb=1 then some (⟨gd,od,none⟩:Addr) else some ⟨gd,od+1,none⟩)=SD at hslD hs3;generalize lb - 1=sd at hslD hs3;obtain ⟨qm',hqm'⟩:∃ m',(ints l).length=m':=⟨_,rfl⟩
      rw [hqm'] at e2 hs1;have hslL:=fun X'=>slice_ints1 g oo qm' lc _ e2.symm X'
      generalize (if lc=1 then some (⟨g,oo,none⟩:Addr) else some ⟨g,oo+1,none⟩)=SQ at hslL hs1;generalize lc - 1=sq at hslL hs1;have hlm:l.length+1=m:=by rw [e2,← hqm',ints_len]
      generalize hm2:(x::y::t).length=m2 at *;have hm3:(0:Int) < (m2:Int):=by omega
      have hm3n:0 < m2:=by omega
      have HBODY:=Lib.hid (fun (w2:World) (fv2:Value) (X2:Except Int (List Fm)) (B2:Nat) (hS:Stx w0 w2 E q (.slice (some ⟨b,o,none⟩) n c) fv2 X2 B2) (hl2:Sl w2 (E++Zx q fv2) (.slice SD pm' sd) (ints (y::t))) (hB2:B2+sumT ns (y::t)+1≤200000) =>
        sbody_any HF hS D.ok (ndAt ns cl).at_ hl2 hpl (by omega) hyt hB2)
      have HIH:=Lib.hid (fun (w1:World) (fv1:Value) (X1:Except Int (List Fm)) (B1:Nat) (hS:Stx w0 w1 E q (.slice (some ⟨b,o,none⟩) n c) fv1 X1 B1) (hl2:Sl w1 (E++Zx q fv1) (.slice SQ qm' sq) (ints l)) (hB1:B1+sumT ns l+2≤200000)=>ih w1 fv1 X1 B1 SQ qm' sq hS hl2 (fun i hi=>hin i (List.mem_cons_of_mem _ hi)) hB1);have HST:=Lib.hid (fun (w2:World) (f:MM.Far [] w w2)=>h.to f);have HSD:=Lib.hid hs3;have HSQ:=Lib.hid hs1;have HFC:=Lib.hid HF;have HX:=Lib.hid (And.intro hx (show 16*T ns x - 8≤N by have:=hcl.2;omega));have HBB:Hid (B+(16+16*T ns x+sumT ns (y::t))+sumT ns l+2≤200000∧16*T ns cl=16+16*T ns x+sumT ns (y::t)):=Lib.hid (by rw [sumT_wts] at hB ⊢;rw [sumT_wts];omega);have HZW:Hid (∀ z∈Zx q fv,z < w.heap.size):=Lib.hid h.low.2.1;have HOK:=Lib.hid D.ok;have HTP:=Lib.hid (T_pos ns x);clear hSd hs3 hcsd hT h D HF ih hl hin hc1 hc2 e2 e5 hc3 hc4 hxT hsx hcs hs1 hd hxy hyt hfew hpm' hpl hqm' hx hcl hB hm2;generalize (ndAt ns cl).at_=a2 at *;generalize (ndAt ns cl).n=n2 at *;generalize (ndAt ns cl).s=s2 at *;generalize (ndAt ns x).l.length=mx at *;generalize (ndAt ns x).at_=ax at *;generalize (ndAt ns x).n=nx at *;generalize (ndAt ns x).kind=kx at *;generalize (ndAt ns x).s=sx at *;have FA:=(MM.Far.refl [] w).alloc (.cells #[.int .u8 0,.int .i64 0,.int .i64 0,.string ⟨#[]⟩,.slice none 0 0] 122);have c1':=far_cell FA c1;have x0':=far_cell FA x0;have g0':=far_cell FA g0;have g1':=far_cell FA g1;have g2':=far_cell FA g2;have g3':=far_cell FA g3;have g4':=far_cell FA g4;clear FA;obtain ⟨W1,hW1⟩:∃ W1,(w.alloc (.cells #[.int .u8 4,.int .i64 a2,.int .i64 n2,.string s2,.slice (some ⟨gd,od,none⟩) m2 lb] 122)).drew=W1:=⟨_,rfl⟩
      have F1:MM.Far [] w W1:=by rw [← hW1];exact ((MM.Far.refl [] w).alloc _).drew
      have R1:MM.Row W1 w.heap.size 122 [.int .u8 4,.int .i64 a2,.int .i64 n2,.string s2,.slice (some ⟨gd,od,none⟩) m2 lb]:=by rw [← hW1];exact (MM.Row.new w _ _).drew
      have FB:=F1.alloc (.cells #[.int .u8 0,.int .i64 0,.int .i64 0,.string ⟨#[]⟩,.slice none 0 0] 122);have p0':=far_cell FB x0;have p1':=(R1.alloc (.cells #[.int .u8 0,.int .i64 0,.int .i64 0,.string ⟨#[]⟩,.slice none 0 0] 122)).at (i:=4) rfl;have p2':=far_cell FB k0;have q0':=far_cell FB y0;have q1':=far_cell FB y1;have q2':=far_cell FB y2;have q3':=far_cell FB y3;have q4':=far_cell FB y4;have p0:=far_cell F1 x0;have p1:=R1.at (i:=4) rfl;have p2:=far_cell F1 k0;have q0:=far_cell F1 y0;have q1:=far_cell F1 y1;have q2:=far_cell F1 y2;have q3:=far_cell F1 y3;have q4:=far_cell F1 y4;obtain ⟨W2,hW2⟩:∃ W2,(W1.alloc (.cells #[.int .u8 kx,.int .i64 ax,.int .i64 nx,.string sx,.slice LC mx lc2] 122)).drew=W2:=⟨_,rfl⟩
      have F2:MM.Far [] w W2:=by rw [← hW2];exact (F1.alloc _).drew
      have R2:MM.Row W2 w.heap.size 122 [.int .u8 4,.int .i64 a2,.int .i64 n2,.string s2,.slice (some ⟨gd,od,none⟩) m2 lb]:=by rw [← hW2];exact (R1.alloc _).drew
      have R3:MM.Row W2 W1.heap.size 122 [.int .u8 kx,.int .i64 ax,.int .i64 nx,.string sx,.slice LC mx lc2]:=by rw [← hW2];exact (MM.Row.new W1 _ _).drew
      have r1:=R2.at (i:=1) rfl;have r4:=R2.at (i:=4) rfl;have s0:=R3.at (i:=0) rfl;have s3:=R3.at (i:=3) rfl;have rk:=far_cell F2 k0;have rc:=far_cell F2 c1;have HF2:=Lib.hid F2;have HR2:=Lib.hid R2;have HW1:=Lib.hid hW1;have HW2:=Lib.hid hW2;have HWC:=Lib.hid (HWR.out _ F2);have HEV:Hid (exq ns (.cond a (cl::l))=onPl (exq ns) (if sx≠nElse then choosePl a (.dat x) (body a2 (y::t)) (.cond a l) else if l≠[] then .bad a2 else .ins (body a2 (y::t)))):=Lib.hid (by rw [← hcond];exact funext hEV);clear F1 R1 FB F2 R2 R3 hW1 hW2 HWR hEV hcond y0 y1 y2 y3 y4 k0;by_cases hel:sx=nElse
      · have hk3:kx=3:=Classical.byContradiction (fun hne=>by have:=hlf hne;rw [hel] at this;exact absurd this (by decide));subst hk3;rw [if_neg (fun hne=>hne hel)] at HEV;subst hel;clear hlf;unfold nElse at *;by_cases hln:l=[]
        · rw [if_neg (fun hne=>hne hln)] at HEV;have hln0:l.length=0:=by rw [hln];rfl
          have hm1:¬ (1:Int) < (m:Int):=by omega
          rw [HEV.out];have HC:=Lib.hid (HBODY.out W2.drew fv X B (HST.out _ HF2.out.drew) (HSD.out.far HF2.out.drew (by simp)) (by have:=HBB.out;omega));have HQE:Hid (exq ns (body a2 (y::t))=onPl (exq ns) (.ins (body a2 (y::t)))):=Lib.hid rfl;clear HWC HEV HIH HFC hln hln0 hlm HSQ;unfold ptr num at *;go_enter Tryz.func106,Tryz.ntmps106
          go_wp2_with (first
            | (go_at_call 129;(with_reducible refine HLI.out.mono ?_);rintro e w1 ⟨rfl,rfl⟩))
          go_region
          rw [HW1.out];go_wp2;go_region
          rw [HW2.out];go_wp2
          go_region_held3 (fun w'=>w'.cell? ⟨w.heap.size,1,none⟩=some (.int .i64 a2)∧w'.cell? ⟨w.heap.size,4,none⟩=some (.slice (some ⟨gd,od,none⟩) m2 lb)) (first | (with_reducible assumption) | go_keep) (first
            | (go_at_call 100;(with_reducible refine HC.out.mono ?_);rintro e w3 hQ;have HQ:=Lib.hid (hQ.from (Fr.quiet HF2.out.drew));obtain ⟨k,fv1,he,hFr,-⟩:=hQ;(replace he:e = .returned (.int .i64 ((k:Nat):Int)):=he);subst he;have HBX3:=Lib.hid (HR2.out.drew.far hFr.far (fun hm=>by have:=HZW.out _ hm;omega));have hk:w3.cell? ⟨w.heap.size,1,none⟩=some (.int .i64 a2)∧w3.cell? ⟨w.heap.size,4,none⟩=some (.slice (some ⟨gd,od,none⟩) m2 lb):=⟨HBX3.out.at (i:=1) rfl,HBX3.out.at (i:=4) rfl⟩;clear hFr))
          go_wp2;go_ret
          have hh:=HQ.out;rw [HQE.out] at hh;exact hh.mono (by have:=HBB.out;omega)
        · rw [if_pos hln] at HEV;have hln0:0 < l.length:=List.length_pos_iff.2 hln;have hm1:(1:Int) < (m:Int):=by omega
          rw [HEV.out];clear HEV HIH HFC HBODY hln hln0 hlm HSQ;unfold ptr num at *;go_enter Tryz.func106,Tryz.ntmps106
          go_wp2_with (first
            | (go_at_call 129;(with_reducible refine HLI.out.mono ?_);rintro e w1 ⟨rfl,rfl⟩))
          go_region
          rw [HW1.out];go_wp2;go_region
          rw [HW2.out]
          go_wp2_with (first
            | (go_at_call 59;(with_reducible refine HWC.out.mono ?_);rintro e w3 hQ;have HQ:=Lib.hid (hQ.from (Fr.quiet HF2.out));obtain ⟨k,fv1,he,-⟩:=hQ;(replace he:e = .returned (.int .i64 ((k:Nat):Int)):=he);subst he))
          go_ret
          exact HQ.out.mono (by omega)
      · rw [if_pos hel] at HEV;have hx1:(sx.toList == [101,108,115,101])=false:=by have:=beq_list hel;rw [Lib.toList_data nElse] at this;exact this
        have HC1:=Lib.hid (HFC.out _ _ _ _ _ x false HX.out.1 HX.out.2 (by have:=HBB.out;have:=HTP.out;omega) (HST.out _ HF2.out));have HEX:Hid (onPl (exq ns) (choosePl a (.dat x) (body a2 (y::t)) (.cond a l))=_):=Lib.hid (funext fun st=>runs3 (exq ns) (frm 5 a 0) (.dat x) (body a2 (y::t)) (.cond a l) st);have hcase:(kx=3)∨(kx == 3)=false:=by
          by_cases hk:kx=3
          · exact .inl hk
          · exact .inr (by simp [hk])
        rw [HEV.out,HEX.out];clear HWC HEV HEX hlf hlm hel HX;unfold ptr num at *
        rcases hcase with hk3 | hk3
        all_goals
          first | subst hk3 | skip
          go_enter Tryz.func106,Tryz.ntmps106
          go_wp2_with (first
            | (go_at_call 129;(with_reducible refine HLI.out.mono ?_);rintro e w1 ⟨rfl,rfl⟩))
          go_region
          rw [HW1.out];go_wp2;go_region
          rw [HW2.out]
          go_wp2_with (first
            | (go_at_call 30;(with_reducible refine HC1.out.mono ?_);rintro e w3 ⟨k1,fv3,he,hF3,hS3,hk1⟩;(replace he:e = .returned (.int .i64 ((k1:Nat):Int)):=he);subst he
               have HC2:=Lib.hid (HBODY.out w3.drew _ _ _ (hS3.to (MM.Far.refl [] w3).drew) ((hF3.sl (HSD.out.far HF2.out (by simp))).far (MM.Far.refl [] w3).drew (by simp)) (by have:=HBB.out;have:=HTP.out;omega));have HBX3:=Lib.hid (HR2.out.far hF3.far (fun hm=>by have:=HZW.out _ hm;omega));have u1:=HBX3.out.at (i:=1) rfl;have u4:=HBX3.out.at (i:=4) rfl;have HF3:=Lib.hid hF3;have HK1:=Lib.hid hk1;clear hF3 hS3 hk1))
          go_region_held3 (fun w'=>w'.cell? ⟨w.heap.size,1,none⟩=some (.int .i64 a2)∧w'.cell? ⟨w.heap.size,4,none⟩=some (.slice (some ⟨gd,od,none⟩) m2 lb)) (first | (with_reducible assumption) | go_keep) (first
            | (go_at_call 100;(with_reducible refine HC2.out.mono ?_);rintro e w4 ⟨k2,fv4,he,hF4,hS4,hk2⟩;(replace he:e = .returned (.int .i64 ((k2:Nat):Int)):=he);subst he
               have hF5:=HF3.out.trans ((Fr.quiet (MM.Far.refl [] w3).drew (q:=q) (fv:=fv3)).trans hF4);have HBX4:=Lib.hid (HR2.out.far hF5.far (fun hm=>by have:=HZW.out _ hm;omega));have hk:w4.cell? ⟨w.heap.size,1,none⟩=some (.int .i64 a2)∧w4.cell? ⟨w.heap.size,4,none⟩=some (.slice (some ⟨gd,od,none⟩) m2 lb):=⟨HBX4.out.at (i:=1) rfl,HBX4.out.at (i:=4) rfl⟩
               have HC3:=Lib.hid (HIH.out _ _ _ _ hS4 (hF5.sl (HSQ.out.far HF2.out (by simp))) (by have:=HBB.out;have:=HTP.out;omega));have HF4:=Lib.hid hF5;have HK2:=Lib.hid hk2;clear hF4 hS4 hk2 hF5))
          go_wp2_with (first
            | (go_at_call 106;(with_reducible refine HC3.out.mono ?_);rintro e w5 ⟨k3,fv5,he,hF5,hS5,hk3⟩;(replace he:e = .returned (.int .i64 ((k3:Nat):Int)):=he);subst he;have HC4:=Lib.hid (sput_three (k:=5) (a:=a) hS5 HK1.out HK2.out hk3 (by have:=HBB.out;have:=HTP.out;omega) rfl);unfold ptr at HC4;have HF5:=Lib.hid (HF4.out.trans hF5);clear hF5 hS5)
            | (go_at_call 56;(with_reducible refine HC4.out.mono ?_);rintro e w6 hQ;have HQ:=Lib.hid ((hQ.from HF5.out).from (Fr.quiet HF2.out));obtain ⟨k4,fv6,he,-⟩:=hQ;(replace he:e = .returned (.int .i64 ((k4:Nat):Int)):=he);subst he))
          go_ret
          exact HQ.out.mono (by have:=HBB.out;have:=HTP.out;omega)
    · rw [decide_eq_false hd] at HLI;have hlt:(ndAt ns cl).l.length < 2:=by
        by_cases hk:(ndAt ns cl).kind=4
        · have:¬ 2≤(ndAt ns cl).l.length:=fun h=>hd ⟨hk,h⟩
          omega
        · rw [D.leaf cl hk];simp
      have hcond:condP ns a (cl::l) = .bad (ndAt ns cl).at_:=by
        unfold condP;simp only []
        rw [if_pos hlt]
      have HEV:Hid (exq ns (.cond a (cl::l))=onPl (exq ns) (.bad (ndAt ns cl).at_)):=Lib.hid (by rw [← hcond];exact funext hEV);rw [HEV.out];have HWC:=Lib.hid (swrong_any h D.nd D.len hcl.1 (D.at0 cl));clear h D HF ih hl hin hc1 hc2 e2 hsx hcs hs1 hd hlt hcond hEV hSd hT HEV hcl;unfold ptr num at *;go_enter Tryz.func106,Tryz.ntmps106
      go_wp2_with (first
        | (go_at_call 129;(with_reducible refine HLI.out.mono ?_);rintro e w1 ⟨rfl,rfl⟩)
        | (go_at_call 59;(with_reducible refine HWC.out.mono ?_);rintro e w1 hQ;have HQ:=Lib.hid hQ;obtain ⟨k,fv1,he,-⟩:=hQ;(replace he:e = .returned (.int .i64 ((k:Nat):Int)):=he);subst he))
      go_ret
      exact HQ.out.mono (by omega)
end
end EW
end Go.Proofs.YtehgmmbdlnginaaGreatDoor
