/-
  Several texts in one: ExpR15,ExpR16.
-/
import Derived.Test.YtehgmmbdlnginaaGreatDoorQExpR14
namespace Go.Proofs.YtehgmmbdlnginaaGreatDoor
open Go.RowKit
set_option linter.unusedVariables false
namespace EW
open LX SX RW6 EX
open RX (Nd)
section
variable {w0 w w1:World} {Z E:List Nat} {q:Nat} {b o:Nat} {n c:Nat} {ns:List Nd} {dv fv:Value} {X:Except Int (List Fm)} {B:Nat}
theorem Sl.get {g o m c:Nat} {vs:List Value} (h:Sl w Z (.slice (some ⟨g,o,none⟩) m c) vs) (k:Nat) {x:Value} (hx:vs[k]? = some x) {j:Nat} (hj:o+k=j):w.cell? ⟨g,j,none⟩=some x:=by
  subst hj;obtain ⟨A',c',e,_,_,k3⟩:=h;injection e with e1 e2 e3;obtain ⟨g',o',e',_,_,hc'⟩:=k3 k x hx;rw [← e1] at e';injection e' with e';injection e' with ea eb;subst ea;subst eb;exact hc'
structure Hd (w0 w:World) (E:List Nat) (q b o n c:Nat) (ns:List Nd) (fv:Value) (X:Except Int (List Fm)) (B i:Nat) (x:Nat) (r:List Nat) (g oo m lc:Nat) (kd nd a:Int) (sd:ByteArray):Prop where
  hb:b < w0.heap.size
  d0:w.cell? ⟨b,o+i*5,none⟩=some (.int .u8 kd)
  d1:w.cell? ⟨b,o+i*5+1,none⟩=some (.int .i64 a)
  d2:w.cell? ⟨b,o+i*5+2,none⟩=some (.int .i64 nd)
  d3:w.cell? ⟨b,o+i*5+3,none⟩=some (.string sd)
  d4:w.cell? ⟨b,o+i*5+4,none⟩=some (.slice (some ⟨g,oo,none⟩) m lc)
  c0:w.cell? ⟨q,0,none⟩=some (.slice (some ⟨b,o,none⟩) n c)
  sl:Sl w (E++Zx q fv) (.slice (some ⟨g,oo,none⟩) m lc) (ints (x::r))
  hm:r.length+1=m
  ha:(ndAt ns i).at_=a
  hT:16*T ns i=16+(16*T ns x+sumT ns r)
  hall:∀ p∈r,p < n
  hkT:∀ p∈r,16*T ns p+16≤16*T ns i
  few:m≤100000
  w1:MM.Far [] w (w.alloc (.cells #[.int .u8 kd,.int .i64 a,.int .i64 nd,.string sd,.slice (some ⟨g,oo,none⟩) m lc] 122))
  row:MM.Row (w.alloc (.cells #[.int .u8 kd,.int .i64 a,.int .i64 nd,.string sd,.slice (some ⟨g,oo,none⟩) m lc] 122)) w.heap.size 122 [.int .u8 kd,.int .i64 a,.int .i64 nd,.string sd,.slice (some ⟨g,oo,none⟩) m lc]
  box:w.heap.size∉Zx q fv
theorem Stx.hd (D:Dta w0 (some ⟨b,o,none⟩) n ns) (h:Stx w0 w E q (.slice (some ⟨b,o,none⟩) n c) fv X B) {i:Nat} (hi:i < n) {x:Nat} {r:List Nat} (hl:(ndAt ns i).l=x::r):∃ g oo m lc kd nd a sd,Hd w0 w E q b o n c ns fv X B i x r g oo m lc kd nd a sd:=by
  obtain ⟨LA,lc,hb,d0,d1,d2,d3,d4,hSl⟩:=h.datc D hi;have hT:=T_all D.ok i;rw [hl,wts_cons] at hT;rw [hl] at hSl d4;obtain ⟨g,oo,cc,e,_,_,_,_,_⟩:=Sl.open_ (u:=num x) (vs:=ints r) hSl;injection e with e1 e2 e3;subst e1 e3;exact ⟨g,oo,_,lc,_,_,_,_,hb,d0,d1,d2,d3,d4,h.q0,hSl,rfl,rfl,hT,fun p hp=>D.kid (i:=i) (p:=p) (by rw [hl];exact List.mem_cons_of_mem _ hp),fun p hp=>T_kid D.ok (i:=i) (p:=p) (by rw [hl];exact List.mem_cons_of_mem _ hp),by have:=D.few i;rw [hl] at this;exact this,(MM.Far.refl [] w).alloc _,MM.Row.new w _ _,fun hm=>by have:=h.low.2.1 _ hm;omega⟩
set_option maxHeartbeats 4000000 in
set_option maxRecDepth 20000 in
theorem sif_any {N:Nat} (HF:FormC w0 q (some ⟨b,o,none⟩) n c ns N) (D:Dta w0 (some ⟨b,o,none⟩) n ns) (h:Stx w0 w E q (.slice (some ⟨b,o,none⟩) n c) fv X B) {i:Nat} (hi:i < n) (hN:16*T ns i≤N+9) (hB:B+(16*T ns i - 8)≤200000) {x:Nat} {r:List Nat} (hl:(ndAt ns i).l=x::r) :
    Calls Tryz.prog 97 #[ptr q,num i,.string ⟨#[105,102]⟩] w (OutQ w0 w E q (.slice (some ⟨b,o,none⟩) n c) fv (bnd X (onPl (exq ns) (if r.length < 2∨3 < r.length then .bad (ndAt ns i).at_ else ifP (ndAt ns i).at_ r))) (B+(16*T ns i - 8))):=by
  obtain ⟨g,oo,m,lc,kd,nd,a,sd,H⟩:=h.hd D hi hl;have hW:=swrong_any (h.to H.w1) D.nd D.len hi (D.at0 i);rw [H.ha] at hW ⊢;have hi0:(0:Int)≤(i:Int):=by omega
  have hi1:(i:Int) < (n:Int):=by omega
  obtain ⟨hb,d0,d1,d2,d3,d4,c0,sl,hm,ha,hT,hall,hkT,few,F0,R0,hbx⟩:=H;have HTP:=Lib.hid (T_pos ns x);by_cases hlt:r.length < 2∨3 < r.length
  · rw [if_pos hlt];have HW:=Lib.hid hW;have HF0:=Lib.hid F0;have h3:((m:Int) < 3)∨(decide ((m:Int) < 3)=false∧(4:Int) < (m:Int)):=by
      rcases hlt with h | h
      · left;omega
      · right;exact ⟨by rw [decide_eq_false_iff_not];omega,by omega⟩
    clear HF D h hl hT hall hkT sl F0 R0 hW ha hm hlt;unfold ptr num at *
    rcases h3 with h3 | ⟨h3,h4⟩
    all_goals
      go_enter Tryz.func97,Tryz.ntmps97
      go_wp2_with (first
        | (go_at_call 59;(with_reducible refine HW.out.mono ?_);rintro e w1 hQ;have HQ:=Lib.hid (hQ.from (Fr.quiet HF0.out));obtain ⟨k,fv1,he,-⟩:=hQ;(replace he:e = .returned (.int .i64 ((k:Nat):Int)):=he);subst he))
      go_ret
      exact HQ.out.mono (by omega)
  · rw [if_neg hlt];obtain ⟨y,z,t,rfl⟩:=two (r:=r) (by omega);have hy:=hall y (by simp);have hz:=hall z (by simp);have hyT:=hkT y (by simp);have hzT:=hkT z (by simp);have hsx:sumT ns (y::z::t)=16*T ns y+(16*T ns z+sumT ns t):=by simp [sumT]
    rw [hsx] at hT;have HC1:=Lib.hid (HF _ _ _ _ _ y false hy (by omega) (by omega) (h.to F0));have HSL:=Lib.hid (sl.far F0 (by simp));have HBX:=Lib.hid R0;have HBZ:=Lib.hid hbx;have HFC:=Lib.hid HF;have HOK:=Lib.hid D.ok;have HF0:=Lib.hid F0;have HZ:Hid (z < n∧16*T ns z - 8≤N):=Lib.hid ⟨hz,by omega⟩;have HBB:=Lib.hid hB;have HTT:=Lib.hid hT;have HTy:=Lib.hid (T_pos ns y);have HTz:=Lib.hid (T_pos ns z);have hb1:(1:Int) < (m:Int):=by simp at hm;omega
    have hb2:(2:Int) < (m:Int):=by simp at hm;omega
    have h3:decide ((m:Int) < 3)=false:=by rw [decide_eq_false_iff_not];simp at hm;omega
    have h4:decide ((4:Int) < (m:Int))=false:=by rw [decide_eq_false_iff_not];simp at hm hlt;omega
    have x1:=HSL.out.get 1 rfl rfl;cases t with
    | nil =>
      have hm3:m=3:=by simpa using hm.symm
      subst hm3;have HEX:Hid (onPl (exq ns) (ifP a [y,z])=_):=Lib.hid (funext fun st=>runs3 (exq ns) (frm 5 a 0) (.dat y) (.dat z) (.tr a 0) st);rw [HEX.out];clear HF D h hl hT hall hkT sl F0 R0 hW ha hm hlt hyT hzT hsx hy hz HEX h3 h4 hb1 hb2;unfold ptr num at *;go_enter Tryz.func97,Tryz.ntmps97
      go_wp2_with (first
        | (go_at_call 30;(with_reducible refine HC1.out.mono ?_);rintro e w1 ⟨k1,fv1,he,hF1,hS1,hk1⟩;(replace he:e = .returned (.int .i64 ((k1:Nat):Int)):=he);subst he
           have HC2:=Lib.hid (HFC.out _ _ _ _ _ z false HZ.out.1 HZ.out.2 (by have:=HBB.out;have:=HTT.out;have:=HTP.out;omega) hS1);unfold ptr num at HC2;have u1:=(HBX.out.far hF1.far HBZ.out).at (i:=1) rfl;have u4:=(HBX.out.far hF1.far HBZ.out).at (i:=4) rfl;have x2:=(hF1.sl HSL.out).get 2 rfl rfl;have HF1:=Lib.hid hF1;have HK1:=Lib.hid hk1;clear hF1 hS1 hk1 HC1)
        | (go_at_call 30;(with_reducible refine HC2.out.mono ?_);rintro e w2 ⟨k2,fv2,he,hF2,hS2,hk2⟩;(replace he:e = .returned (.int .i64 ((k2:Nat):Int)):=he);subst he
           have HC3:=Lib.hid (sbitq_any hS2 (by have:=HBB.out;have:=HTT.out;have:=HTP.out;have:=HTy.out;omega) HOK.out a 0);unfold ptr num at HC3;have hF2:=HF1.out.trans hF2;have u1:=(HBX.out.far hF2.far HBZ.out).at (i:=1) rfl;have u4:=(HBX.out.far hF2.far HBZ.out).at (i:=4) rfl;have HF2:=Lib.hid hF2;have HK2:=Lib.hid hk2;clear hF2 hS2 hk2)
        | (go_at_call 57;(with_reducible refine HC3.out.mono ?_);rintro e w3 ⟨k3,fv3,he,hF3,hS3,hk3⟩;(replace he:e = .returned (.int .i64 ((k3:Nat):Int)):=he);subst he
           have HC4:=Lib.hid (sput_three (k:=5) (a:=a) hS3 HK1.out HK2.out hk3 (by have:=HBB.out;have:=HTT.out;have:=HTP.out;have:=HTy.out;omega) rfl);unfold ptr at HC4;have hF3:=HF2.out.trans hF3;have u1:=(HBX.out.far hF3.far HBZ.out).at (i:=1) rfl;have HF3:=Lib.hid hF3;clear hF3 hS3 hk3)
        | (go_at_call 56;(with_reducible refine HC4.out.mono ?_);rintro e w4 hQ;have HQ:=Lib.hid ((hQ.from HF3.out).from (Fr.quiet HF0.out));obtain ⟨k4,fv4,he,-⟩:=hQ;(replace he:e = .returned (.int .i64 ((k4:Nat):Int)):=he);subst he))
      go_ret
      exact HQ.out.mono (by have:=HTT.out;have:=HTP.out;have:=HTy.out;have:=HTz.out;omega)
    | cons u t =>
      obtain rfl:t=[]:=by
        have:t.length=0:=by have h5:=(not_or.1 hlt).2;simp only [List.length_cons] at h5;omega
        exact List.eq_nil_of_length_eq_zero this
      have hm3:m=4:=by simpa using hm.symm
      subst hm3;have hu:=hall u (by simp);have huT:=hkT u (by simp);have HEX:Hid (onPl (exq ns) (ifP a [y,z,u])=_):=Lib.hid (funext fun st=>runs3 (exq ns) (frm 5 a 0) (.dat y) (.dat z) (.dat u) st);rw [HEX.out];have HU:Hid (u < n∧16*T ns u - 8≤N):=Lib.hid ⟨hu,by omega⟩;have HTu:=Lib.hid (T_pos ns u);have HTT2:Hid (16*T ns i=16+(16*T ns x+(16*T ns y+(16*T ns z+16*T ns u)))):=Lib.hid (by rw [hT];simp [sumT]);clear HF D h hl hT hall hkT sl F0 R0 hW ha hm hlt hyT hzT hsx hy hz HEX h3 h4 hb1 hb2 HTT hu huT;unfold ptr num at *;go_enter Tryz.func97,Tryz.ntmps97
      go_wp2_with (first
        | (go_at_call 30;(with_reducible refine HC1.out.mono ?_);rintro e w1 ⟨k1,fv1,he,hF1,hS1,hk1⟩;(replace he:e = .returned (.int .i64 ((k1:Nat):Int)):=he);subst he
           have HC2:=Lib.hid (HFC.out _ _ _ _ _ z false HZ.out.1 HZ.out.2 (by have:=HBB.out;have:=HTT2.out;have:=HTP.out;omega) hS1);unfold ptr num at HC2;have u1:=(HBX.out.far hF1.far HBZ.out).at (i:=1) rfl;have u4:=(HBX.out.far hF1.far HBZ.out).at (i:=4) rfl;have x2:=(hF1.sl HSL.out).get 2 rfl rfl;have HF1:=Lib.hid hF1;have HK1:=Lib.hid hk1;clear hF1 hS1 hk1 HC1)
        | (go_at_call 30;(with_reducible refine HC2.out.mono ?_);rintro e w2 ⟨k2,fv2,he,hF2,hS2,hk2⟩;(replace he:e = .returned (.int .i64 ((k2:Nat):Int)):=he);subst he
           have HC3:=Lib.hid (HFC.out _ _ _ _ _ u false HU.out.1 HU.out.2 (by have:=HBB.out;have:=HTT2.out;have:=HTP.out;have:=HTy.out;omega) hS2);unfold ptr num at HC3;have hF2:=HF1.out.trans hF2;have u1:=(HBX.out.far hF2.far HBZ.out).at (i:=1) rfl;have u4:=(HBX.out.far hF2.far HBZ.out).at (i:=4) rfl;have x3:=(hF2.sl HSL.out).get 3 rfl rfl;have HF2:=Lib.hid hF2;have HK2:=Lib.hid hk2;clear hF2 hS2 hk2 HC2)
        | (go_at_call 30;(with_reducible refine HC3.out.mono ?_);rintro e w3 ⟨k3,fv3,he,hF3,hS3,hk3⟩;(replace he:e = .returned (.int .i64 ((k3:Nat):Int)):=he);subst he
           have HC4:=Lib.hid (sput_three (k:=5) (a:=a) hS3 HK1.out HK2.out hk3 (by have:=HBB.out;have:=HTT2.out;have:=HTP.out;have:=HTy.out;omega) rfl);unfold ptr at HC4;have hF3:=HF2.out.trans hF3;have u1:=(HBX.out.far hF3.far HBZ.out).at (i:=1) rfl;have HF3:=Lib.hid hF3;clear hF3 hS3 hk3)
        | (go_at_call 56;(with_reducible refine HC4.out.mono ?_);rintro e w4 hQ;have HQ:=Lib.hid ((hQ.from HF3.out).from (Fr.quiet HF0.out));obtain ⟨k4,fv4,he,-⟩:=hQ;(replace he:e = .returned (.int .i64 ((k4:Nat):Int)):=he);subst he))
      go_ret
      exact HQ.out.mono (by have:=HTT2.out;have:=HTP.out;have:=HTy.out;have:=HTz.out;have:=HTu.out;omega)
end
end EW
end Go.Proofs.YtehgmmbdlnginaaGreatDoor
namespace Go.Proofs.YtehgmmbdlnginaaGreatDoor
open Go.RowKit
set_option linter.unusedVariables false
namespace EW
open LX SX RW6 EX
open RX (Nd)
section
variable {w0 w w1:World} {Z E:List Nat} {q:Nat} {b o:Nat} {n c:Nat} {ns:List Nd} {dv fv:Value} {X:Except Int (List Fm)} {B:Nat}
set_option maxHeartbeats 4000000 in
set_option maxRecDepth 20000 in
theorem swhen_any {N:Nat} (HF:FormC w0 q (some ⟨b,o,none⟩) n c ns N) (D:Dta w0 (some ⟨b,o,none⟩) n ns) (h:Stx w0 w E q (.slice (some ⟨b,o,none⟩) n c) fv X B) {i:Nat} (hi:i < n) (hN:16*T ns i≤N+9) (hB:B+(16*T ns i - 8)≤200000) {x:Nat} {r:List Nat} (hl:(ndAt ns i).l=x::r) :
    Calls Tryz.prog 97 #[ptr q,num i,.string ⟨#[119,104,101,110]⟩] w (OutQ w0 w E q (.slice (some ⟨b,o,none⟩) n c) fv (bnd X (onPl (exq ns) (atL 2 (ndAt ns i).at_ r (whenP (ndAt ns i).at_ r)))) (B+(16*T ns i - 8))):=by
  obtain ⟨g,oo,m,lc,kd,nd,a,sd,H⟩:=h.hd D hi hl;have hW:=swrong_any (h.to H.w1) D.nd D.len hi (D.at0 i);rw [H.ha] at hW ⊢;have hi0:(0:Int)≤(i:Int):=by omega
  have hi1:(i:Int) < (n:Int):=by omega
  obtain ⟨hb,d0,d1,d2,d3,d4,c0,sl,hm,ha,hT,hall,hkT,few,F0,R0,hbx⟩:=H;have HTP:=Lib.hid (T_pos ns x);unfold atL;by_cases hlt:r.length < 2
  · rw [if_pos hlt];have HW:=Lib.hid hW;have HF0:=Lib.hid F0;have h3:(m:Int) < 3:=by omega
    clear HF D h hl hT hall hkT sl F0 R0 hW ha hm hlt;unfold ptr num at *;go_enter Tryz.func97,Tryz.ntmps97
    go_wp2_with (first
      | (go_at_call 59;(with_reducible refine HW.out.mono ?_);rintro e w1 hQ;have HQ:=Lib.hid (hQ.from (Fr.quiet HF0.out));obtain ⟨k,fv1,he,-⟩:=hQ;(replace he:e = .returned (.int .i64 ((k:Nat):Int)):=he);subst he))
    go_ret
    exact HQ.out.mono (by omega)
  · rw [if_neg hlt];obtain ⟨y,t,rfl⟩:=one (r:=r) (by omega);have hy:=hall y (List.mem_cons_self ..);have hyT:=hkT y (List.mem_cons_self ..);have hsx:sumT ns (y::t)=16*T ns y+sumT ns t:=by simp [sumT]
    rw [hsx] at hT;have HC1:=Lib.hid (HF _ _ _ _ _ y false hy (by omega) (by omega) (h.to F0));have HSL:=Lib.hid (sl.far F0 (by simp));obtain ⟨g',oo',cc,e,_,_,_,_,hs2⟩:=Sl.open_ (u:=num x) (vs:=ints (y::t)) HSL.out;injection e with e1 e2 e3;injection e1 with e1;injection e1 with ea eb;subst ea;subst eb;subst e3;have hst:=hs2 (num y) (ints t) rfl;have htl:(ints t).length+2=m:=by rw [ints_len];simpa using hm
    have hsl2:=fun X'=>slice_ints2 g oo (ints t).length lc m htl X'
    generalize (if lc=2 then some (⟨g,oo,none⟩:Addr) else some ⟨g,oo+2,none⟩)=SA at hsl2 hst;generalize lc - 2=sc at hsl2 hst;rw [ints_len] at htl hst hsl2;have HBODY:=Lib.hid (fun (w2:World) (fv2:Value) (X2:Except Int (List Fm)) (B2:Nat) (hS:Stx w0 w2 E q (.slice (some ⟨b,o,none⟩) n c) fv2 X2 B2) (hl2:Sl w2 (E++Zx q fv2) (.slice SA t.length sc) (ints t)) (hB2:B2+sumT ns t+1≤200000) =>
      sbody_any HF hS D.ok a hl2 rfl (by omega) (fun p hp=>⟨hall p (List.mem_cons_of_mem _ hp),by have:=hkT p (List.mem_cons_of_mem _ hp);omega⟩) hB2)
    have HST:=Lib.hid hst;have HBX:=Lib.hid R0;have HBZ:=Lib.hid hbx;have HOK:=Lib.hid D.ok;have HF0:=Lib.hid F0;have HBB:=Lib.hid hB;have HTT:=Lib.hid hT;have HTy:=Lib.hid (T_pos ns y);have hb1:(1:Int) < (m:Int):=by omega
    have h3:decide ((m:Int) < 3)=false:=by rw [decide_eq_false_iff_not];simp at hlt;omega
    have x1:=HSL.out.get 1 rfl rfl;have HEX:Hid (onPl (exq ns) (whenP a (y::t))=_):=Lib.hid (funext fun st=>runs3 (exq ns) (frm 5 a 0) (.dat y) (body a t) (.tr a 0) st);rw [HEX.out];clear HF D h hl hT hall hkT sl F0 R0 hW ha hm hlt hyT hsx hy HEX hs2 htl e2 hst;generalize t.length=tm at *;unfold ptr num at *;go_enter Tryz.func97,Tryz.ntmps97
    go_wp2_with (first
      | (go_at_call 30;(with_reducible refine HC1.out.mono ?_);rintro e w1 ⟨k1,fv1,he,hF1,hS1,hk1⟩;(replace he:e = .returned (.int .i64 ((k1:Nat):Int)):=he);subst he
         have HC2:=Lib.hid (HBODY.out w1.drew _ _ _ (hS1.to (MM.Far.refl [] w1).drew) ((hF1.sl HST.out).far (MM.Far.refl [] w1).drew (by simp)) (by have:=HBB.out;have:=HTT.out;have:=HTP.out;have:=HTy.out;omega));have u1:=(HBX.out.far hF1.far HBZ.out).at (i:=1) rfl;have u4:=(HBX.out.far hF1.far HBZ.out).at (i:=4) rfl;have HF1:=Lib.hid hF1;have HK1:=Lib.hid hk1;clear hF1 hS1 hk1 HC1))
    go_region_held3 (fun w'=>w'.cell? ⟨w.heap.size,1,none⟩=some (.int .i64 a)∧w'.cell? ⟨w.heap.size,4,none⟩=some (.slice (some ⟨g,oo,none⟩) m lc)) (first | (with_reducible assumption) | go_keep) (first
      | (go_at_call 100;(with_reducible refine HC2.out.mono ?_);rintro e w2 ⟨k2,fv2,he,hF2,hS2,hk2⟩;(replace he:e = .returned (.int .i64 ((k2:Nat):Int)):=he);subst he
         have hF2:=HF1.out.trans ((Fr.quiet (MM.Far.refl [] w1).drew (q:=q) (fv:=fv1)).trans hF2);have hk:w2.cell? ⟨w.heap.size,1,none⟩=some (.int .i64 a)∧w2.cell? ⟨w.heap.size,4,none⟩=some (.slice (some ⟨g,oo,none⟩) m lc):=⟨(HBX.out.far hF2.far HBZ.out).at (i:=1) rfl,(HBX.out.far hF2.far HBZ.out).at (i:=4) rfl⟩
         have u1:=hk.1;have u4:=hk.2;have HC3:=Lib.hid (sbitq_any hS2 (by have:=HBB.out;have:=HTT.out;have:=HTP.out;have:=HTy.out;omega) HOK.out a 0);unfold ptr num at HC3;have HF2:=Lib.hid hF2;have HK2:=Lib.hid hk2;clear hF2 hS2 hk2))
    go_wp2_with (first
      | (go_at_call 57;(with_reducible refine HC3.out.mono ?_);rintro e w3 ⟨k3,fv3,he,hF3,hS3,hk3⟩;(replace he:e = .returned (.int .i64 ((k3:Nat):Int)):=he);subst he
         have HC4:=Lib.hid (sput_three (k:=5) (a:=a) hS3 HK1.out HK2.out hk3 (by have:=HBB.out;have:=HTT.out;have:=HTP.out;have:=HTy.out;omega) rfl);unfold ptr at HC4;have hF3:=HF2.out.trans hF3;have u1:=(HBX.out.far hF3.far HBZ.out).at (i:=1) rfl;have HF3:=Lib.hid hF3;clear hF3 hS3 hk3)
      | (go_at_call 56;(with_reducible refine HC4.out.mono ?_);rintro e w4 hQ;have HQ:=Lib.hid ((hQ.from HF3.out).from (Fr.quiet HF0.out));obtain ⟨k4,fv4,he,-⟩:=hQ;(replace he:e = .returned (.int .i64 ((k4:Nat):Int)):=he);subst he))
    go_ret
    exact HQ.out.mono (by have:=HTT.out;have:=HTP.out;have:=HTy.out;omega)
set_option maxHeartbeats 4000000 in
set_option maxRecDepth 20000 in
theorem sunless_any {N:Nat} (HF:FormC w0 q (some ⟨b,o,none⟩) n c ns N) (D:Dta w0 (some ⟨b,o,none⟩) n ns) (h:Stx w0 w E q (.slice (some ⟨b,o,none⟩) n c) fv X B) {i:Nat} (hi:i < n) (hN:16*T ns i≤N+9) (hB:B+(16*T ns i - 8)≤200000) {x:Nat} {r:List Nat} (hl:(ndAt ns i).l=x::r) :
    Calls Tryz.prog 97 #[ptr q,num i,.string ⟨#[117,110,108,101,115,115]⟩] w (OutQ w0 w E q (.slice (some ⟨b,o,none⟩) n c) fv (bnd X (onPl (exq ns) (atL 2 (ndAt ns i).at_ r (unlessP (ndAt ns i).at_ r)))) (B+(16*T ns i - 8))):=by
  obtain ⟨g,oo,m,lc,kd,nd,a,sd,H⟩:=h.hd D hi hl;have hW:=swrong_any (h.to H.w1) D.nd D.len hi (D.at0 i);rw [H.ha] at hW ⊢;have hi0:(0:Int)≤(i:Int):=by omega
  have hi1:(i:Int) < (n:Int):=by omega
  obtain ⟨hb,d0,d1,d2,d3,d4,c0,sl,hm,ha,hT,hall,hkT,few,F0,R0,hbx⟩:=H;have HTP:=Lib.hid (T_pos ns x);unfold atL;by_cases hlt:r.length < 2
  · rw [if_pos hlt];have HW:=Lib.hid hW;have HF0:=Lib.hid F0;have h3:(m:Int) < 3:=by omega
    clear HF D h hl hT hall hkT sl F0 R0 hW ha hm hlt;unfold ptr num at *;go_enter Tryz.func97,Tryz.ntmps97
    go_wp2_with (first
      | (go_at_call 59;(with_reducible refine HW.out.mono ?_);rintro e w1 hQ;have HQ:=Lib.hid (hQ.from (Fr.quiet HF0.out));obtain ⟨k,fv1,he,-⟩:=hQ;(replace he:e = .returned (.int .i64 ((k:Nat):Int)):=he);subst he))
    go_ret
    exact HQ.out.mono (by omega)
  · rw [if_neg hlt];obtain ⟨y,t,rfl⟩:=one (r:=r) (by omega);have hy:=hall y (List.mem_cons_self ..);have hyT:=hkT y (List.mem_cons_self ..);have hsx:sumT ns (y::t)=16*T ns y+sumT ns t:=by simp [sumT]
    rw [hsx] at hT;have HC1:=Lib.hid (HF _ _ _ _ _ y false hy (by omega) (by omega) (h.to F0));have HSL:=Lib.hid (sl.far F0 (by simp));obtain ⟨g',oo',cc,e,_,_,_,_,hs2⟩:=Sl.open_ (u:=num x) (vs:=ints (y::t)) HSL.out;injection e with e1 e2 e3;injection e1 with e1;injection e1 with ea eb;subst ea;subst eb;subst e3;have hst:=hs2 (num y) (ints t) rfl;have htl:(ints t).length+2=m:=by rw [ints_len];simpa using hm
    have hsl2:=fun X'=>slice_ints2 g oo (ints t).length lc m htl X'
    generalize (if lc=2 then some (⟨g,oo,none⟩:Addr) else some ⟨g,oo+2,none⟩)=SA at hsl2 hst;generalize lc - 2=sc at hsl2 hst;rw [ints_len] at htl hst hsl2;have HBODY:=Lib.hid (fun (w2:World) (fv2:Value) (X2:Except Int (List Fm)) (B2:Nat) (hS:Stx w0 w2 E q (.slice (some ⟨b,o,none⟩) n c) fv2 X2 B2) (hl2:Sl w2 (E++Zx q fv2) (.slice SA t.length sc) (ints t)) (hB2:B2+sumT ns t+1≤200000) =>
      sbody_any HF hS D.ok a hl2 rfl (by omega) (fun p hp=>⟨hall p (List.mem_cons_of_mem _ hp),by have:=hkT p (List.mem_cons_of_mem _ hp);omega⟩) hB2)
    have HST:=Lib.hid hst;have HBX:=Lib.hid R0;have HBZ:=Lib.hid hbx;have HOK:=Lib.hid D.ok;have HF0:=Lib.hid F0;have HBB:=Lib.hid hB;have HTT:=Lib.hid hT;have HTy:=Lib.hid (T_pos ns y);have hb1:(1:Int) < (m:Int):=by omega
    have h3:decide ((m:Int) < 3)=false:=by rw [decide_eq_false_iff_not];simp at hlt;omega
    have x1:=HSL.out.get 1 rfl rfl;have HEX:Hid (onPl (exq ns) (unlessP a (y::t))=_):=Lib.hid (funext fun st=>runs3 (exq ns) (frm 5 a 0) (.dat y) (.tr a 0) (body a t) st);rw [HEX.out];clear HF D h hl hT hall hkT sl F0 R0 hW ha hm hlt hyT hsx hy HEX hs2 htl e2 hst;generalize t.length=tm at *;unfold ptr num at *;go_enter Tryz.func97,Tryz.ntmps97
    go_wp2_with (first
      | (go_at_call 30;(with_reducible refine HC1.out.mono ?_);rintro e w1 ⟨k1,fv1,he,hF1,hS1,hk1⟩;(replace he:e = .returned (.int .i64 ((k1:Nat):Int)):=he);subst he
         have HC2:=Lib.hid (sbitq_any hS1 (by have:=HBB.out;have:=HTT.out;have:=HTP.out;have:=HTy.out;omega) HOK.out a 0);unfold ptr num at HC2;have u1:=(HBX.out.far hF1.far HBZ.out).at (i:=1) rfl;have u4:=(HBX.out.far hF1.far HBZ.out).at (i:=4) rfl;have HF1:=Lib.hid hF1;have HK1:=Lib.hid hk1;clear hF1 hS1 hk1 HC1)
      | (go_at_call 57;(with_reducible refine HC2.out.mono ?_);rintro e w2 ⟨k2,fv2,he,hF2,hS2,hk2⟩;(replace he:e = .returned (.int .i64 ((k2:Nat):Int)):=he);subst he
         have hF2:=HF1.out.trans hF2;have HC3:=Lib.hid (HBODY.out w2.drew _ _ _ (hS2.to (MM.Far.refl [] w2).drew) ((hF2.sl HST.out).far (MM.Far.refl [] w2).drew (by simp)) (by have:=HBB.out;have:=HTT.out;have:=HTP.out;have:=HTy.out;omega));have u1:=(HBX.out.far hF2.far HBZ.out).at (i:=1) rfl;have u4:=(HBX.out.far hF2.far HBZ.out).at (i:=4) rfl;have HF2:=Lib.hid hF2;have HK2:=Lib.hid hk2;clear hF2 hS2 hk2))
    go_region_held3 (fun w'=>w'.cell? ⟨w.heap.size,1,none⟩=some (.int .i64 a)∧w'.cell? ⟨w.heap.size,4,none⟩=some (.slice (some ⟨g,oo,none⟩) m lc)) (first | (with_reducible assumption) | go_keep) (first
      | (go_at_call 100;(with_reducible refine HC3.out.mono ?_);rintro e w3 ⟨k3,fv3,he,hF3,hS3,hk3⟩;(replace he:e = .returned (.int .i64 ((k3:Nat):Int)):=he);subst he
         have hF3:=HF2.out.trans ((Fr.quiet (MM.Far.refl [] w2).drew (q:=q) (fv:=fv2)).trans hF3);have hk:w3.cell? ⟨w.heap.size,1,none⟩=some (.int .i64 a)∧w3.cell? ⟨w.heap.size,4,none⟩=some (.slice (some ⟨g,oo,none⟩) m lc):=⟨(HBX.out.far hF3.far HBZ.out).at (i:=1) rfl,(HBX.out.far hF3.far HBZ.out).at (i:=4) rfl⟩
         have u1:=hk.1;have HC4:=Lib.hid (sput_three (k:=5) (a:=a) hS3 HK1.out HK2.out hk3 (by have:=HBB.out;have:=HTT.out;have:=HTP.out;have:=HTy.out;omega) rfl);unfold ptr at HC4;have HF3:=Lib.hid hF3;clear hF3 hS3 hk3))
    go_wp2_with (first
      | (go_at_call 56;(with_reducible refine HC4.out.mono ?_);rintro e w4 hQ;have HQ:=Lib.hid ((hQ.from HF3.out).from (Fr.quiet HF0.out));obtain ⟨k4,fv4,he,-⟩:=hQ;(replace he:e = .returned (.int .i64 ((k4:Nat):Int)):=he);subst he))
    go_ret
    exact HQ.out.mono (by have:=HTT.out;have:=HTP.out;have:=HTy.out;omega)
end
end EW
end Go.Proofs.YtehgmmbdlnginaaGreatDoor
