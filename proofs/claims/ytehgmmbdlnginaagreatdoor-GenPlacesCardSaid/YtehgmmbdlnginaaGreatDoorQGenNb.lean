/-
  Several texts in one: ScoFe,ScoSi,GenFm,GenNb.
-/
import Derived.Test.YtehgmmbdlnginaaGreatDoorQScoKd
import Derived.Test.YtehgmmbdlnginaaGreatDoorQScoR11
import Derived.Test.YtehgmmbdlnginaaGreatDoorQGenOk
import Derived.Test.YtehgmmbdlnginaaGreatDoorQGenTab
import Derived.Test.YtehgmmbdlnginaaGreatDoorQGenRun
namespace Go.Proofs.YtehgmmbdlnginaaGreatDoor
open Go.RowKit
set_option linter.unusedVariables false
namespace SC
open LX RX SX EX
def nsOf (s:ByteArray):List Nd:=match RX.read s with | .error _=>[] | .ok r=>r.row
def xOf (s:ByteArray):List Fm × List Nat:=match RX.read s with | .error _=>([],[]) | .ok r=>match EX.expand r.row r.tops with | .error _=>([],[]) | .ok x=>x
def rdE (s:ByteArray):Int:=match RX.read s with | .error x=>x.2 | .ok _=>0
def exE (s:ByteArray):Int:=match RX.read s with | .error _=>0 | .ok r=>match EX.expand r.row r.tops with | .error _=>80 | .ok _=>0
theorem ofS_eq (s:ByteArray):ofS s=SC.scope (nsOf s) (xOf s).1 (xOf s).2:=by
  unfold ofS nsOf xOf;cases RX.read s with
  | error e=>rfl
  | ok r =>
    simp only
    cases EX.expand r.row r.tops with
    | error e=>rfl
    | ok x=>rfl
def KOf (s:ByteArray):List ByteArray:=(nsOf s).map (·.s)
structure TxOk (s:ByteArray):Prop where
  gd:Gd (cx (nsOf s) (xOf s).1) (KOf s)
  fms:SM.Fms (xOf s).1 (xOf s).2 (nsOf s).length
  few:∀ x∈nsOf s,x.l.length≤100000
  dlen:(nsOf s).length≤100000
  fl:∀ x∈(xOf s).1,x.l.length≤100000
  flen:(xOf s).1.length≤100000
  tlen:(xOf s).2.length≤99999
  wt:((xOf s).2.map (F (cx (nsOf s) (xOf s).1))).sum≤128160000
  may:RX.may ((nsOf s).map RX.toI)=true
theorem tx_ok (s:ByteArray) (hs:s.size≤1000):TxOk s:=by
  cases hR:RX.read s with
  | error e =>
    have h1:nsOf s=[]:=by unfold nsOf;rw [hR]
    have h2:xOf s=([],[]):=by unfold xOf;rw [hR]
    have hK:KOf s=[]:=by unfold KOf;rw [h1];rfl
    refine ⟨?_,?_,?_,?_,?_,?_,?_,?_,?_⟩
    · rw [h1,h2,hK];exact gd_none
    · rw [h1,h2];exact fms_nil 0
    · rw [h1];exact fun x hx=>by cases hx
    · rw [h1];simp
    · rw [h2];exact fun x hx=>by cases hx
    · rw [h2];simp
    · rw [h2];simp
    · rw [h2];simp
    · rw [h1];rfl
  | ok r =>
    have h1:nsOf s=r.row:=by unfold nsOf;rw [hR]
    have hK:KOf s=r.row.map (·.s):=by unfold KOf;rw [h1]
    have hsz:=RX.read_sizes hR;cases hX:EX.expand r.row r.tops with
    | error e =>
      have h2:xOf s=([],[]):=by unfold xOf;rw [hR];simp only;rw [hX]
      refine ⟨?_,?_,?_,?_,?_,?_,?_,?_,?_⟩
      · rw [h1,h2,hK];exact gd_nil hR hs
      · rw [h1,h2];exact fms_nil _
      · rw [h1];exact fun x hx=>by have:=hsz.2.2 x hx;omega
      · rw [h1];omega
      · rw [h2];exact fun x hx=>by cases hx
      · rw [h2];simp
      · rw [h2];simp
      · rw [h2];simp
      · rw [h1];exact RX.read_may hR
    | ok x =>
      obtain ⟨fs,ts⟩:=x;have h2:xOf s=(fs,ts):=by unfold xOf;rw [hR];simp only;rw [hX]
      have hF:=forms_of hR hX;have hsm:=fms_small (fms_of hR hX);have hlen:=hF.len;have htl:=hF.tlen;refine ⟨?_,?_,?_,?_,?_,?_,?_,?_,?_⟩
      · rw [h1,h2,hK];exact gd_of hR hX hs
      · rw [h1,h2];exact fms_of hR hX
      · rw [h1];exact fun x hx=>by have:=hsz.2.2 x hx;omega
      · rw [h1];omega
      · rw [h2];exact fun x hx=>by have:=hsm x hx;omega
      · rw [h2];simp only;omega
      · rw [h2];simp only;omega
      · rw [h1,h2];exact tops_F hR hX hs
      · rw [h1];exact RX.read_may hR
theorem ev_few {C:Cx} (hfl:∀ i,(fmAt C.fs i).l.length≤100000) {R:Rws} {N:List ByteArray} {p:Sp} {f:Rf} {R':Rws} {ps:List Sp} {N':List ByteArray} (e:evS C R N p=(.mk f R' ps,N')):ps.length≤100000:=by
  have hql:∀ a l,quoL R a l = .mk f R' ps→ps.length≤100000:=fun a l e=>by
    cases l <;> (simp only [quoL,Sn.mk.injEq] at e;obtain ⟨-,-,rfl⟩:=e;simp)
  have hq:∀ a i,quo C.ns R N a i=(.mk f R' ps,N')→ps.length≤100000:=fun a i e=>by
    unfold quo at e;split at e
    · simp only [Prod.mk.injEq,Sn.mk.injEq] at e;obtain ⟨⟨-,-,rfl⟩,-⟩:=e;simp
    split at e
    · simp only [Prod.mk.injEq,Sn.mk.injEq] at e;obtain ⟨⟨-,-,rfl⟩,-⟩:=e;simp
    split at e
    · simp only [Prod.mk.injEq,Sn.mk.injEq] at e;obtain ⟨⟨-,-,rfl⟩,-⟩:=e;simp
    · simp only [Prod.mk.injEq] at e;exact hql _ _ e.1
  cases p with
  | qd a i=>exact hq a i e
  | ql a l=>simp only [evS,Prod.mk.injEq] at e;exact hql a l e.1
  | form i =>
    simp only [evS] at e
    have hl:=hfl i;generalize fmAt C.fs i=g at *;have fin:∀ {x:Rf} {R1:Rws} {qs:List Sp} {M:List ByteArray},((.mk x R1 qs,M):Sn × List ByteArray)=(.mk f R' ps,N')→qs.length≤100000→ps.length≤100000:=by
      intro x R1 qs M e h;simp only [Prod.mk.injEq,Sn.mk.injEq] at e
      obtain ⟨⟨-,-,rfl⟩,-⟩:=e;exact h
    have hm:(g.l.map Sp.form).length≤100000:=by rw [List.length_map];exact hl
    unfold evF at e;split at e
    · exact fin e (by simp)
    split at e
    · exact fin e (by simp)
    split at e
    · exact hq _ _ e
    split at e
    · unfold nameP at e;split at e
      · exact fin e (by simp)
      · split at e
        · exact fin e (by simp)
        · cases e
    split at e
    · exact fin e hm
    split at e
    · unfold setP' at e;split at e
      · exact fin e hm
      · split at e
        · exact fin e hm
        · cases e
    split at e
    · unfold defP at e;split at e
      · cases e
      · exact fin e hm
    split at e
    · unfold callP at e;split at e
      · split at e
        · cases e
        · exact fin e (by rw [List.length_map,List.length_drop];omega)
      · exact fin e hm
    · exact fin e hm
theorem parts_keep {Q:Sp→Su→Su→Nat→Prop} {G:Rf→Prop} {ps:List Sp} {s s':Su} {l:List Nat} (h:Parts Q ps s s' l) (hQ:∀ p s s' i,Q p s s' i→(∀ f∈s.2,G f)→∀ f∈s'.2,G f):(∀ f∈s.2,G f)→∀ f∈s'.2,G f:=by
  induction h with
  | nil s=>exact id
  | cons h1 _ ih=>exact fun hs=>ih (hQ _ _ _ _ h1 hs)
theorem parts_grow {Q:Sp→Su→Su→Nat→Prop} {W:Sp→Nat} {ps:List Sp} {s s':Su} {l:List Nat} (h:Parts Q ps s s' l) (hQ:∀ p s s' i,p∈ps→Q p s s' i→s'.2.length≤s.2.length+W p):s'.2.length≤s.2.length+(ps.map W).sum:=by
  induction h with
  | nil s=>simp
  | cons h1 h2 ih =>
    have a:=hQ _ _ _ _ (List.mem_cons_self ..) h1;have b:=ih (fun p s s' i hp=>hQ p s s' i (List.mem_cons_of_mem _ hp));rw [List.map_cons,List.sum_cons];omega
theorem scope_few {s:ByteArray} (hs:s.size≤1000) {N:List ByteArray} {row:List Rf} {l:List Nat} (h:ofS s = .ok (N,row,l)):row.length≤128160000∧(∀ f∈row,f.l.length≤100000)∧l.length≤100000:=by
  have T:=tx_ok s hs;rw [ofS_eq] at h;have hfl:∀ i,(fmAt (cx (nsOf s) (xOf s).1).fs i).l.length≤100000:=fun i=>by
    show (fmAt (xOf s).1 i).l.length≤100000
    by_cases hi:i < (xOf s).1.length
    · rw [fm_in hi];exact T.fl _ (List.getElem_mem hi)
    · rw [fm_out hi];exact Nat.zero_le _
  have ht:∀ t∈(xOf s).2,t < (cx (nsOf s) (xOf s).1).fs.length:=T.fms.tlt;have h1:=tops_ind T.gd (P:=fun _ p a b _=>((∀ f∈a.2,f.l.length≤100000)→∀ f∈b.2,f.l.length≤100000)∧b.2.length≤a.2.length+wgt (cx (nsOf s) (xOf s).1) p) (fun R p z f R' ps N' s' l _ _ e _ hp=>by
    have hlen:=hp.len;have hfew:=ev_few hfl e;have hw:=ev_wg T.gd.fw R z.1 p;rw [e] at hw;simp only [wgn] at hw
    have hg:=parts_grow (W:=wgt (cx (nsOf s) (xOf s).1)) hp (fun p s s' i _ h=>h.2);refine ⟨fun hs g hg2=>?_,?_⟩
    · rcases List.mem_append.1 hg2 with hg2 | hg2
      · exact parts_keep (G:=fun f=>f.l.length≤100000) hp (fun p s s' i h=>h.1) hs g hg2
      · rw [List.mem_singleton.1 hg2];simp only;omega
    · rw [List.length_append,List.length_singleton];have:s'.2.length≤z.2.length+wgts (cx (nsOf s) (xOf s).1) ps:=hg;omega) ht h
  have hg:=parts_grow (W:=wgt (cx (nsOf s) (xOf s).1)) h1.1 (fun p s s' i _ h=>h.2);rw [List.map_map] at hg;have hw:=T.wt;have he:((xOf s).2.map (wgt (cx (nsOf s) (xOf s).1) ∘ Sp.form)).sum=((xOf s).2.map (F (cx (nsOf s) (xOf s).1))).sum:=rfl;rw [he] at hg;have hl:=h1.1.len;rw [List.length_map] at hl;have:=T.tlen;refine ⟨by simpa using Nat.le_trans hg (by simpa using hw),parts_keep (G:=fun f=>f.l.length≤100000) h1.1 (fun p s s' i h=>h.1) (fun f hf=>by cases hf),by omega⟩
end SC
end Go.Proofs.YtehgmmbdlnginaaGreatDoor
namespace Go.Proofs.YtehgmmbdlnginaaGreatDoor
open Go.RowKit
set_option linter.unusedVariables false
namespace SR
open LX SX RW6 EX SC SM
open EW (Sl ptr num strs NdR)
def Sit (w:World) (s:ByteArray) (dv fv tv:Value):Prop:=∃ DA dc FA fc T tc,dv = .slice DA (nsOf s).length dc∧NdR w DA (nsOf s)∧fv = .slice FA (xOf s).1.length fc∧FmS w FA (xOf s).1∧tv = .slice T (xOf s).2.length tc∧RdC w [] T (ints (xOf s).2)
theorem Sit.far {w w':World} {s:ByteArray} {dv fv tv:Value} (h:Sit w s dv fv tv) (f:MM.Far [] w w'):Sit w' s dv fv tv:=by
  obtain ⟨DA,dc,FA,fc,T,tc,e1,h1,e2,h2,e3,h3⟩:=h;exact ⟨DA,dc,FA,fc,T,tc,e1,h1.far f,e2,h2.far f,e3,h3.far f (by simp)⟩
def ExQ (w:World) (s:ByteArray) (dv:Value) (e:Ending) (w':World):Prop:=∃ fv tv x3,e = .returned (.tuple #[fv,tv,.int .i64 x3,.int .i64 (exE s)])∧MM.Far [] w w'∧Sit w' s dv fv tv
theorem sit_any (s:ByteArray) (hs:s.size≤1000) (w:World):Calls Tryz.prog 17 #[.string s] w fun e w1=>∃ dv tv x1,e = .returned (.tuple #[dv,tv,.int .i64 x1,.int .i64 (rdE s)])∧MM.Far [] w w1∧∀ w2,MM.Far [] w1 w2→Calls Tryz.prog 18 #[dv,tv] w2 (ExQ w2 s dv):=by
  refine (RM6.rread_any s (by omega) w).mono fun e w1 hQ=>?_
  cases hR:RX.read s with
  | error px =>
    obtain ⟨p,x⟩:=px;rw [hR] at hQ;obtain ⟨rfl,hF⟩:e = .returned (.tuple #[.slice none 0 0,.slice none 0 0,.int .i64 p,.int .i64 x])∧MM.Far [] w w1:=hQ;refine ⟨_,_,p,by unfold rdE;rw [hR],hF,fun w2 f=>?_⟩
    refine (EW.dnilS_any w2).mono fun e w3 ⟨A,c,T,d,he,hFm,hT,hF3⟩=>?_
    have h1:nsOf s=[]:=by unfold nsOf;rw [hR]
    have h2:xOf s=([],[]):=by unfold xOf;rw [hR]
    refine ⟨_,_,0,by rw [he];unfold exE;rw [hR],hF3,none,0,A,c,T,d,by rw [h1];rfl,by rw [h1];exact fun k hk=>by simp at hk,by rw [h2],by rw [h2];exact hFm,by rw [h2],by rw [h2];exact rd_int hT⟩
  | ok r =>
    rw [hR] at hQ;obtain ⟨rv,tv,rs,rfl,hD,hrs⟩:=hQ;have hlen:=read_len hR;refine ⟨rv,tv,0,by unfold rdE;rw [hR],hD.far,fun w2 f=>?_⟩
    have h1:nsOf s=r.row:=by unfold nsOf;rw [hR]
    obtain ⟨DA,dc,hrv,hNd⟩:=EW.done_rows hD;rw [hrs] at hNd;have hn:rs.length=r.row.length:=by rw [← hrs,List.length_map]
    rw [hn] at hrv;refine (EW.dcodeS_any hR hD hrs (by omega) f).mono fun e w3 hQ=>?_
    cases hX:EX.expand r.row r.tops with
    | error a =>
      rw [hX] at hQ;obtain ⟨rfl,hF3⟩:e = .returned (.tuple #[.slice none 0 0,.slice none 0 0,.int .i64 a,.int .i64 80])∧MM.Far [] w2 w3:=hQ;have h2:xOf s=([],[]):=by unfold xOf;rw [hR];simp only;rw [hX]
      refine ⟨_,_,a,by unfold exE;rw [hR];simp only;rw [hX],hF3,DA,dc,none,0,none,0,by rw [h1];exact hrv,by rw [h1];exact hNd.far (f.trans hF3 (by simp)),by rw [h2];rfl,by rw [h2];exact fun k hk=>by simp at hk,by rw [h2];rfl,by rw [h2];exact fun k u hu=>by simp [ints] at hu⟩
    | ok x =>
      rw [hX] at hQ;obtain ⟨FA,fc,T,tc,rfl,hFm,hT,hF3⟩:=hQ;have h2:xOf s=x:=by unfold xOf;rw [hR];simp only;rw [hX]
      exact ⟨_,_,0,by unfold exE;rw [hR];simp only;rw [hX],hF3,DA,dc,FA,fc,T,tc,by rw [h1];exact hrv,by rw [h1];exact hNd.far (f.trans hF3 (by simp)),by rw [h2],by rw [h2];exact hFm,by rw [h2],by rw [h2];exact rd_int hT⟩
theorem dtext_any (s:ByteArray) (hs:s.size≤1000) {w:World} {dv fv tv:Value} (h:Sit w s dv fv tv):Calls Tryz.prog 19 #[dv,fv,tv,.slice none 0 0] w (DsQ w (ofS s)):=by
  have T:=tx_ok s hs;obtain ⟨DA,dc,FA,fc,TA,tc,rfl,hN,rfl,hF,rfl,hT⟩:=h;rw [ofS_eq];have hM:=RW6.dmay_any ((nsOf s).map RX.toI) (nsOf s).length (by rw [List.length_map]) (by have:=T.dlen;omega) (fun x hx=>by
    obtain ⟨y,hy,rfl⟩:=List.mem_map.1 hx;have:=T.few y hy;simp only [RX.toI,List.length_map];omega) DA dc w (NiRow.of_nd hN.row)
  rw [T.may] at hM;exact dscope_any T.gd hN rfl T.few hM hF rfl T.flen T.fms T.fl hT rfl (by have:=T.tlen;omega) (by have:=T.dlen;omega) (by have:=T.wt;omega)
end SR
end Go.Proofs.YtehgmmbdlnginaaGreatDoor
namespace Go.Proofs.YtehgmmbdlnginaaGreatDoor
namespace GP
open LX RX SX EX KP SC
structure Fd (s s':Su) (i:Nat):Prop where
  seg:∃ new:List Rf,s'.2=s.2++new∧(new.flatMap (·.l)++[i]).Perm (List.range' s.2.length new.length)∧∀ (k:Nat) (hk:k < new.length),(∃ N R R',Shp N R { new[k] with l:=[] } R' new[k].l.length)∧∀ p∈new[k].l,p < s.2.length+k
structure Fds (s s':Su) (l:List Nat):Prop where
  seg:∃ new:List Rf,s'.2=s.2++new∧(new.flatMap (·.l)++l).Perm (List.range' s.2.length new.length)∧∀ (k:Nat) (hk:k < new.length),(∃ N R R',Shp N R { new[k] with l:=[] } R' new[k].l.length)∧∀ p∈new[k].l,p < s.2.length+k
theorem range_app (a m n:Nat):List.range' a m++List.range' (a+m) n=List.range' a (m+n):=by
  have:=List.range'_append (s:=a) (m:=m) (n:=n) (step:=1);rw [Nat.one_mul] at this;rw [this]
theorem parts_fd {ps:List Sp} {s s':Su} {l:List Nat} (h:Parts (fun _=>Fd) ps s s' l):Fds s s' l:=by
  induction h with
  | nil s=>exact ⟨⟨[],by simp,by simp,fun k hk=>absurd hk (by simp)⟩⟩
  | @cons p ps s s1 s2 i l h1 _ ih =>
    obtain ⟨n1,e1,p1,f1⟩:=h1.seg;obtain ⟨n2,e2,p2,f2⟩:=ih.seg;have hl:s1.2.length=s.2.length+n1.length:=by rw [e1];simp
    refine ⟨⟨n1++n2,by rw [e2,e1];simp,?_,fun k hk=>?_⟩⟩
    · rw [List.flatMap_append,List.length_append,← range_app,← hl];have h3:((n1.flatMap (·.l)++[i])++(n2.flatMap (·.l)++l)).Perm (List.range' s.2.length n1.length++List.range' s1.2.length n2.length):=p1.append p2;refine List.Perm.trans ?_ h3
      rw [List.append_assoc,List.append_assoc];refine List.Perm.append_left _ ?_
      rw [List.singleton_append];exact List.perm_middle
    · by_cases h:k < n1.length
      · rw [List.getElem_append_left h];exact f1 k h
      · rw [List.getElem_append_right (by omega)];obtain ⟨g1,g2⟩:=f2 (k - n1.length) (by rw [List.length_append] at hk;omega);exact ⟨g1,fun p hp=>by have:=g2 p hp;omega⟩
theorem fd_step {K:List ByteArray} {C:Cx} (h:Gd C K) (R:Rws) (p:Sp) (s:Su) (f:Rf) (R':Rws) (ps:List Sp) (N':List ByteArray) (s':Su) (l:List Nat) (hN:Nk K s.1) (ht:ThS C p) (e:evS C R s.1 p=(.mk f R' ps,N')) (hp:Parts (fun _=>Fd) ps (N',s.2) s' l):Fd s (s'.1,s'.2++[{ f with l:=l }]) s'.2.length:=by
  have hsh:=ev_shp h hN ht e;obtain ⟨new,e1,p1,f1⟩:=(parts_fd hp).seg;simp only at e1 p1 f1
  have hll:=hp.len;have hl:s'.2.length=s.2.length+new.length:=by rw [e1];simp
  have hmem:∀ q∈l,q < s'.2.length:=fun q hq=>by
    have:=p1.mem_iff.1 (List.mem_append_right _ hq);rw [List.mem_range'_1] at this;omega
  refine ⟨⟨new++[{ f with l:=l }],by rw [e1];simp,?_,fun k hk=>?_⟩⟩
  · rw [List.flatMap_append,List.length_append,List.length_singleton,← range_app];have e2:[({ f with l:=l }:Rf)].flatMap (·.l)=l:=by simp
    rw [e2,← hl];exact p1.append (by simp)
  · by_cases h2:k < new.length
    · rw [List.getElem_append_left h2];exact f1 k h2
    · have hk2:k=new.length:=by rw [List.length_append,List.length_singleton] at hk;omega
      subst hk2;rw [List.getElem_append_right (Nat.le_refl _)];simp only [Nat.sub_self,List.getElem_cons_zero]
      refine ⟨⟨N',R,R',?_⟩,fun q hq=>by have:=hmem q hq;omega⟩
      rw [hll];have h0:=hsh.l;have e3:({ f with l:=[] }:Rf)=f:=by cases f;simp only at h0;rw [h0]
      rw [e3];exact hsh
theorem forms_ok {s:ByteArray} (hs:s.size≤1000) {N:List ByteArray} {row:List Rf} {l:List Nat} (h:ofS s = .ok (N,row,l)):Rok row∧(∀ t∈l,t < row.length)∧(row.flatMap (·.l)++l).Nodup:=by
  have T:=tx_ok s hs;rw [ofS_eq] at h;have h1:=(tops_ind T.gd (P:=fun _ _=>Fd) (fun R p s f R' ps N' s' l hN ht e _ hp=>fd_step T.gd R p s f R' ps N' s' l hN ht e hp) T.fms.tlt h).1;obtain ⟨new,e1,p1,f1⟩:=(parts_fd h1).seg;simp only [List.nil_append,List.length_nil,Nat.zero_add] at e1 p1 f1
  subst e1;refine ⟨fun i hi=>?_,fun t ht=>?_,?_⟩
  · rw [rf_at hi];exact f1 i hi
  · have:=p1.mem_iff.1 (List.mem_append_right _ ht);rw [List.mem_range'_1] at this;omega
  · exact p1.nodup_iff.2 List.nodup_range'
theorem text_check {s:ByteArray} (hs:s.size≤1000) {N:List ByteArray} {row:List Rf} {l:List Nat} (h:ofS s = .ok (N,row,l)):check (genB row l)=(0,0,0):=by
  obtain ⟨h1,h2,_⟩:=forms_ok hs h;exact genB_check h1 h2
end GP
end Go.Proofs.YtehgmmbdlnginaaGreatDoor
namespace Go.Proofs.YtehgmmbdlnginaaGreatDoor
set_option linter.unusedVariables false
namespace GP
open LX RX SX EX KP SC
open KW (Wf)
structure Nz (D:Nat) (f:Rf):Prop where
  a:f.kind=11∨f.kind=7→-1≤f.a∧f.a≤D
  n:f.kind=11∨f.kind=7∨f.kind=4∨f.kind=9∨f.kind=12→0≤f.n∧f.n≤5000
  w:f.kind≠11→f.kind≠7→f.kind≠4→f.kind≠9→f.kind≠12→f.kind≠5→f.kind≠6→f.kind≠8→f.kind≠10→WP.U f.w
def Sm (R:Rws):Prop:=∀ r∈R,r.length≤100
theorem nz_of {N':List ByteArray} {R R':Rws} {f:Rf} {m:Nat} (h:Shp N' R f R' m) (hR:Sm R) (hN:N'.length≤4096):Nz R.length f∧Sm R'∧R'.length≤R.length+1:=by
  have hin:∀ {a n:Int},InR R a n→(-1≤a∧a≤R.length)∧0≤n∧n≤5000:=fun ⟨k,j,r,e1,e2,e3,e4⟩=>by
    have h1:=(List.getElem?_eq_some_iff.1 e3).1;have h2:=hR r (List.mem_of_getElem? e3);omega
  have h6:=h.r6;have hkeep:f.kind≠6→Sm R'∧R'.length≤R.length+1:=fun hk=>by rw [h6 hk];exact ⟨hR,by omega⟩
  rcases h.kinds with h | h | h | h | h | h | h | h | h | h
  · refine ⟨⟨fun e=>by omega,fun e=>by omega,fun _ _ _ _ _ _ _ _ _=>?_⟩,hkeep (by omega)⟩
    rcases h.2.2.2 with e | ⟨n,_,e⟩ | ⟨b,e⟩ | ⟨n,_,e⟩
    · rw [e];unfold WP.U;omega
    · rw [e];exact WP.intW_u n
    · rw [e];unfold WP.boolW;split <;> (unfold WP.U;omega)
    · rw [e];exact WP.ofW_u 3 n
  · exact ⟨⟨fun _=>(hin h.2.2).1,fun _=>(hin h.2.2).2,fun e=>by omega⟩,hkeep (by omega)⟩
  · exact ⟨⟨fun e=>by omega,fun _=>by omega,fun _ _ e=>by omega⟩,hkeep (by omega)⟩
  · obtain ⟨k,_,r,e1,e2,e3⟩:=h;refine ⟨⟨fun e=>by omega,fun e=>by omega,fun _ _ _ _ _ _ e=>by omega⟩,?_,by rw [e1];simp⟩
    rw [e1];intro x hx
    rcases List.mem_cons.1 hx with rfl | hx
    · exact e3
    · exact hR x hx
  · obtain ⟨k,_,hh⟩:=h;refine ⟨⟨fun _=>?_,fun _=>?_,fun _ e=>by omega⟩,hkeep (by omega)⟩
    · rcases hh with hh | hh
      · exact (hin hh).1
      · omega
    · rcases hh with hh | hh
      · exact (hin hh).2
      · omega
  · exact ⟨⟨fun e=>by omega,fun _=>by omega,fun _ _ _ e=>by omega⟩,hkeep (by omega)⟩
  · exact ⟨⟨fun e=>by omega,fun _=>by omega,fun _ _ _ _ e=>by omega⟩,hkeep (by omega)⟩
  · exact ⟨⟨fun e=>by omega,fun e=>by omega,fun _ _ _ _ _ _ _ _ e=>by omega⟩,hkeep (by omega)⟩
  · exact ⟨⟨fun e=>by omega,fun e=>by omega,fun _ _ _ _ _ e=>by omega⟩,hkeep (by omega)⟩
  · exact ⟨⟨fun e=>by omega,fun e=>by omega,fun _ _ _ _ _ _ _ e=>by omega⟩,hkeep (by omega)⟩
theorem Nz.mono {D D':Nat} {f:Rf} (h:Nz D f) (hD:D≤D'):Nz D' f:=⟨fun e=>by have:=h.a e;omega,h.n,h.w⟩
theorem Nz.part {D:Nat} {f:Rf} (h:Nz D f) (l:List Nat):Nz D { f with l:=l }:=⟨h.a,h.n,h.w⟩
def Nd (R:Rws) (s s':Su):Prop:=Sm R→∃ new:List Rf,s'.2=s.2++new∧∀ f∈new,Nz (R.length+new.length) f
theorem parts_nd {R:Rws} {ps:List Sp} {s s':Su} {l:List Nat} (h:Parts (fun _ s s' _=>Nd R s s') ps s s' l):Nd R s s':=by
  induction h with
  | nil s=>exact fun _=>⟨[],by simp,fun f hf=>by cases hf⟩
  | @cons p ps s s1 s2 i l h1 _ ih =>
    intro hR;obtain ⟨n1,e1,f1⟩:=h1 hR;obtain ⟨n2,e2,f2⟩:=ih hR;refine ⟨n1++n2,by rw [e2,e1];simp,fun f hf=>?_⟩
    rw [List.length_append]
    rcases List.mem_append.1 hf with hf | hf
    · exact (f1 f hf).mono (by omega)
    · exact (f2 f hf).mono (by omega)
theorem nd_step {K:List ByteArray} {C:Cx} (h:Gd C K) (R:Rws) (p:Sp) (s:Su) (f:Rf) (R':Rws) (ps:List Sp) (N':List ByteArray) (s':Su) (l:List Nat) (hN:Nk K s.1) (ht:ThS C p) (e:evS C R s.1 p=(.mk f R' ps,N')) (hN':Nk K N') (hp:Parts (fun _ s s' _=>Nd R' s s') ps (N',s.2) s' l):Nd R s (s'.1,s'.2++[{ f with l:=l }]):=by
  intro hR;have hsh:=ev_shp h hN ht e;have hlen:=sub_len N' K hN'.ok.nd hN'.sub;obtain ⟨h1,h2,h3⟩:=nz_of hsh hR (by have:=h.few;omega);obtain ⟨new,e1,f1⟩:=parts_nd hp h2;simp only at e1
  refine ⟨new++[{ f with l:=l }],by simp only;rw [e1];simp,fun g hg=>?_⟩
  rw [List.length_append,List.length_singleton]
  rcases List.mem_append.1 hg with hg | hg
  · exact (f1 g hg).mono (by omega)
  · rw [List.mem_singleton] at hg;rw [hg];exact (h1.mono (by omega)).part l
theorem text_nz {s:ByteArray} (hs:s.size≤1000) {N:List ByteArray} {row:List Rf} {l:List Nat} (h:ofS s = .ok (N,row,l)):∀ f∈row,Nz row.length f:=by
  have T:=tx_ok s hs;rw [ofS_eq] at h;have h1:=(tops_ind T.gd (P:=fun R _ s s' _=>Nd R s s') (fun R p s f R' ps N' s' l hN ht e hN' hp=>nd_step T.gd R p s f R' ps N' s' l hN ht e hN' hp) T.fms.tlt h).1;obtain ⟨new,e1,f1⟩:=parts_nd h1 (fun r hr=>by cases hr);simp only [List.nil_append,List.length_nil,Nat.zero_add] at e1 f1
  subst e1;exact f1
def tl (c:Cd):Nat:=c.1.length+(c.2.map fun b=>b.l.length+1).sum
structure Bo (c:Cd) (m:Nat):Prop where
  len:tl c≤m
  own:∀ x∈c.1,Wf x
  kid:∀ b∈c.2,∀ x∈b.l,Wf x
theorem Bo.app {a b:Cd} {m n:Nat} (h:Bo a m) (k:Bo b n):Bo (a.1++b.1,a.2++b.2) (m+n) :=
  ⟨by have h1:=h.len;have h2:=k.len;unfold tl at *;simp only [List.length_append,List.map_append,List.sum_append];omega,fun x hx=>(List.mem_append.1 hx).elim (h.own x) (k.own x),fun b hb=>(List.mem_append.1 hb).elim (h.kid b) (k.kid b)⟩
theorem Bo.nil:Bo ([],[]) 0:=⟨Nat.le_refl _,(fun x hx=>by cases hx),(fun b hb=>by cases hb)⟩
theorem Bo.one {x:Ki} (h:Wf x):Bo ([x],[]) 1:=⟨Nat.le_refl _,fun y hy=>by rw [List.mem_singleton] at hy;rw [hy];exact h,fun b hb=>by cases hb⟩
theorem Bo.block {c:Cd} {m:Nat} (h:Bo c m) (n:Int):Bo ([],⟨n,c.1⟩::c.2) (m+1) :=
  ⟨by have h1:=h.len;unfold tl at *;simp only [List.length_nil,List.map_cons,List.sum_cons];omega,(fun x hx=>by cases hx),fun b hb=>by
    rcases List.mem_cons.1 hb with rfl | hb
    · exact h.own
    · exact h.kid b hb⟩
theorem Bo.mono {c:Cd} {m n:Nat} (h:Bo c m) (hm:m≤n):Bo c n:=⟨Nat.le_trans h.len hm,h.own,h.kid⟩
theorem sum_len (l:List Kb):l.length≤(l.map fun b=>b.l.length+1).sum:=by
  induction l with
  | nil=>exact Nat.le_refl _
  | cons b l ih=>simp only [List.length_cons,List.map_cons,List.sum_cons];omega
theorem Bo.l1 {c:Cd} {m:Nat} (h:Bo c m):c.1.length≤m:=by have:=h.len;unfold tl at this;omega
theorem Bo.l2 {c:Cd} {m:Nat} (h:Bo c m):c.2.length≤m:=by have:=h.len;have:=sum_len c.2;unfold tl at *;omega
theorem Bo.l3 {c:Cd} {m:Nat} (h:Bo c m):∀ b∈c.2,b.l.length≤m:=fun b hb=>by
  have h1:=h.len;have:∀ l:List Kb,b∈l→b.l.length≤(l.map fun b=>b.l.length+1).sum:=by
    intro l;induction l with
    | nil=>intro h;cases h
    | cons a l ih =>
      intro h;simp only [List.map_cons,List.sum_cons]
      rcases List.mem_cons.1 h with rfl | h
      · omega
      · have:=ih h;omega
  have h2:=this c.2 hb;unfold tl at h1;omega
theorem wf_ki {op a b w:Int} (h1:0≤op∧op < 256) (ha : -1≤a∧a≤4611686018427387904) (hb : -1≤b∧b≤4611686018427387904) (hw:WP.U w):Wf (ki op a b w) :=
  ⟨h1.1,h1.2,⟨by show _≤a;omega,by show a≤_;omega⟩,⟨by show _≤b;omega,by show b≤_;omega⟩,hw⟩
theorem u0:WP.U 0:=by unfold WP.U;omega
theorem wf_n {op:Int} (n:Nat) (h1:0≤op∧op < 256) (h:n≤4611686018427387904):Wf (ki op n 0 0):=wf_ki h1 (by omega) (by omega) u0
theorem bo_end (e:Bool):Bo (endK e,[]) 1:=by
  cases e with
  | true=>exact Bo.one (wf_ki (by omega) (by omega) (by omega) u0)
  | false=>exact Bo.nil.mono (by omega)
def GB (G:Gn) (i z:Nat):Prop:=1≤z∧∀ e p nb,p+4*z≤1000000000000→nb+4*z≤1000000000000→Bo (G i e p nb) (4*z - 1)
section
variable {G:Gn} {g:Nat→Nat}
theorem push_bo:∀ (l:List Nat),(∀ i∈l,GB G i (g i))→∀ p nb,p+4*(l.map g).sum≤1000000000000→nb+4*(l.map g).sum≤1000000000000→Bo (gPush G l p nb) (4*(l.map g).sum):=by
  intro l;induction l with
  | nil=>intro _ p nb _ _;exact Bo.nil
  | cons i l ih =>
    intro hG p nb hp hn;rw [List.map_cons,List.sum_cons] at hp hn ⊢;obtain ⟨hz,h1⟩:=hG i (List.mem_cons_self ..);have hx:=h1 false p nb (by omega) (by omega);have hy:=ih (fun j hj=>hG j (List.mem_cons_of_mem _ hj)) (p+(G i false p nb).1.length+1) (nb+(G i false p nb).2.length) (by have:=hx.l1;omega) (by have:=hx.l2;omega);exact ((hx.app ((Bo.one (wf_ki (op:=7) (a:=0) (b:=0) (w:=0) (by omega) (by omega) (by omega) u0)).app hy))).mono (by omega)
theorem seq_bo (e:Bool):∀ (l:List Nat),(∀ i∈l,GB G i (g i))→∀ p nb,p+4*(l.map g).sum≤1000000000000→nb+4*(l.map g).sum≤1000000000000→Bo (gSeq G e l p nb) (4*(l.map g).sum+2):=by
  intro l;induction l with
  | nil=>intro _ p nb _ _;exact ((Bo.one (wf_ki (op:=1) (a:=0) (b:=0) (w:=26) (by omega) (by omega) (by omega) (by unfold WP.U;omega))).app (bo_end e)).mono (by simp)
  | cons i l ih =>
    intro hG p nb hp hn;obtain ⟨hz,h1⟩:=hG i (List.mem_cons_self ..);cases l with
    | nil =>
      rw [List.map_cons,List.sum_cons] at hp hn ⊢;exact (h1 e p nb (by omega) (by omega)).mono (by omega)
    | cons j l =>
      rw [List.map_cons,List.sum_cons] at hp hn ⊢;have hx:=h1 false p nb (by omega) (by omega);have hy:=ih (fun j hj=>hG j (List.mem_cons_of_mem _ hj)) (p+(G i false p nb).1.length) (nb+(G i false p nb).2.length) (by have:=hx.l1;omega) (by have:=hx.l2;omega);exact (hx.app hy).mono (by omega)
theorem leaf_wf {D:Nat} {f:Rf} (h:Nz D f) (hD:D≤1000000000000) (k:f.kind≠5∧f.kind≠6∧f.kind≠7∧f.kind≠9∧f.kind≠8∧f.kind≠10∧f.kind≠12):Wf (leafK f):=by
  unfold leafK;split
  · have h1:=h.a (.inl ‹_›);have h2:=h.n (.inl ‹_›);exact wf_ki (by omega) (by omega) (by omega) u0
  split
  · have h2:=h.n (.inr (.inr (.inl ‹_›)));exact wf_ki (by omega) (by omega) (by omega) u0
  · exact wf_ki (by omega) (by omega) (by omega) (h.w ‹_› k.2.2.1 ‹_› k.2.2.2.1 k.2.2.2.2.2.2 k.1 k.2.1 k.2.2.2.2.1 k.2.2.2.2.2.1)
theorem set_wf {D:Nat} {f:Rf} (h:Nz D f) (hD:D≤1000000000000) (k:f.kind=7∨f.kind=9):Wf (setK f):=by
  unfold setK;split
  · have h2:=h.n (by omega);exact wf_ki (by omega) (by omega) (by omega) u0
  split
  · have h2:=h.n (by omega);exact wf_ki (by omega) (by omega) (by omega) u0
  · have h1:=h.a (by omega);have h2:=h.n (by omega);exact wf_ki (by omega) (by omega) (by omega) u0
theorem form_bo {D:Nat} {f:Rf} (hf:Nz D f) (hD:D≤1000000000000) (ho:Fo f) (hl:f.l.length≤100000) (hG:∀ i∈f.l,GB G i (g i)):∀ e p nb,p+4*(1+(f.l.map g).sum)≤1000000000000→nb+4*(1+(f.l.map g).sum)≤1000000000000→Bo (gForm G f e p nb) (4*(1+(f.l.map g).sum) - 1):=by
  intro e p nb hp hn;have get:∀ k,k < f.l.length→GB G (f.l.getD k 0) (g (f.l.getD k 0)):=fun k hk=>hG _ (getD_mem hk)
  unfold gForm;by_cases k5:f.kind=5
  · rw [if_pos k5];have h3:=ho.k5 k5;have hs:=sum_three (g:=g) h3;obtain ⟨z0,g0⟩:=get 0 (by omega);obtain ⟨z1,g1⟩:=get 1 (by omega);obtain ⟨z2,g2⟩:=get 2 (by omega);unfold gIf
    dsimp only
    have hx:=g0 false p nb (by omega) (by omega);generalize G (f.l.getD 0 0) false p nb=x at *;have x1:=hx.l1;have x2:=hx.l2;have hy:=g1 e (p+x.1.length+1) (nb+x.2.length) (by omega) (by omega);generalize G (f.l.getD 1 0) e (p+x.1.length+1) (nb+x.2.length)=y at *;have y1:=hy.l1;have y2:=hy.l2;obtain ⟨p2,hp2⟩:∃ p2,p+x.1.length+1+y.1.length+(if e=true then 0 else 1)=p2:=⟨_,rfl⟩
    rw [hp2];have hpb:p2≤p+x.1.length+1+y.1.length+1:=by rw [← hp2];split <;> omega
    have hz:=g2 e p2 (nb+x.2.length+y.2.length) (by omega) (by omega);generalize G (f.l.getD 2 0) e p2 (nb+x.2.length+y.2.length)=z at *;have z1':=hz.l1;have hj:Bo ((if e=true then [] else [ki 8 (p2+z.1.length:Nat) 0 0]),[]) 1:=by
      split
      · exact Bo.nil.mono (by omega)
      · exact Bo.one (wf_n _ (by omega) (by omega))
    exact (hx.app ((Bo.one (wf_n (op:=9) p2 (by omega) (by omega))).app (hy.app (hj.app hz)))).mono (by omega)
  rw [if_neg k5];by_cases k6:f.kind=6
  · rw [if_pos k6];have h1:=ho.k1 (.inl k6);have hs:=sum_mem (g:=g) (getD_mem (l:=f.l) (k:=0) (by omega));obtain ⟨z0,g0⟩:=get 0 (by omega);have hb:=g0 true 0 (nb+1) (by omega) (by omega);generalize G (f.l.getD 0 0) true 0 (nb+1)=x at *;have:=((Bo.one (wf_n (op:=10) nb (by omega) (by omega))).app ((bo_end e).app (hb.block f.n))).mono (n:=4*(1+(f.l.map g).sum) - 1) (by omega);simpa using this
  rw [if_neg k6];by_cases k7:f.kind=7∨f.kind=9
  · rw [if_pos k7];have h1:=ho.k1 (.inr k7);have hs:=sum_mem (g:=g) (getD_mem (l:=f.l) (k:=0) (by omega));obtain ⟨z0,g0⟩:=get 0 (by omega);have hx:=g0 false p nb (by omega) (by omega);generalize G (f.l.getD 0 0) false p nb=x at *;have:=(hx.app ((Bo.one (set_wf hf hD k7)).app (bo_end e))).mono (n:=4*(1+(f.l.map g).sum) - 1) (by omega);simpa using this
  rw [if_neg k7];by_cases k8:f.kind=8
  · rw [if_pos k8];exact (seq_bo e f.l hG p nb (by omega) (by omega)).mono (by omega)
  rw [if_neg k8];by_cases k10:f.kind=10
  · rw [if_pos k10];have h1:=ho.k10 k10;have hs:=sum_drop (g:=g) h1;obtain ⟨z0,g0⟩:=get 0 (by omega);have hx:=push_bo (f.l.drop 1) (fun i hi=>hG i (List.mem_of_mem_drop hi)) p nb (by omega) (by omega);generalize gPush G (f.l.drop 1) p nb=x at *;have x1:=hx.l1;have x2:=hx.l2;have hy:=g0 false (p+x.1.length) (nb+x.2.length) (by omega) (by omega);have hw:Wf (ki (if e=true then 13 else 12) (f.l.length - 1:Nat) 0 0):=by
      split
      · exact wf_n _ (by omega) (by omega)
      · exact wf_n _ (by omega) (by omega)
    have:=(hx.app (hy.app (Bo.one hw))).mono (n:=4*(1+(f.l.map g).sum) - 1) (by omega);simpa using this
  rw [if_neg k10];by_cases k12:f.kind=12
  · rw [if_pos k12];by_cases k18:f.n=18
    · rw [if_pos k18];have h1:=ho.k18 k12 k18;have hs:=sum_mem (g:=g) (getD_mem (l:=f.l) (k:=0) (by omega));obtain ⟨z0,g0⟩:=get 0 (by omega);have hx:=g0 false p nb (by omega) (by omega);have hw:Wf (ki (if e=true then 15 else 14) 0 0 0):=by
        split
        · exact wf_ki (by omega) (by omega) (by omega) u0
        · exact wf_ki (by omega) (by omega) (by omega) u0
      have:=(hx.app (Bo.one hw)).mono (n:=4*(1+(f.l.map g).sum) - 1) (by omega);simpa using this
    · rw [if_neg k18];have hx:=push_bo f.l hG p nb (by omega) (by omega);have h2:=hf.n (by omega);have hw:Wf (ki 11 f.n f.l.length 0):=wf_ki (by omega) (by omega) (by omega) u0;have:=(hx.app ((Bo.one hw).app (bo_end e))).mono (n:=4*(1+(f.l.map g).sum) - 1) (by omega);simpa using this
  rw [if_neg k12];have:=((Bo.one (leaf_wf hf hD ⟨k5,k6,fun h=>k7 (.inl h),fun h=>k7 (.inr h),k8,k10,k12⟩)).app (bo_end e)).mono (n:=4*(1+(f.l.map g).sum) - 1) (by omega);simpa using this
end
theorem gF_bo {row:List Rf} {D:Nat} (hD:D≤1000000000000) (hf:∀ i,Nz D (rfAt row i)∧Fo (rfAt row i)∧(rfAt row i).l.length≤100000):∀ n i,GB (gF row n) i (SC.sz row n i):=by
  intro n;induction n with
  | zero=>exact fun i=>⟨Nat.le_refl _,fun e p nb _ _=>Bo.nil.mono (by omega)⟩
  | succ n ih =>
    intro i;refine ⟨by unfold SC.sz;omega,fun e p nb hp hn=>?_⟩
    obtain ⟨h1,h2,h3⟩:=hf i;exact form_bo h1 hD h2 h3 (fun j _=>ih j) e p nb hp hn
theorem rf_cases (row:List Rf) (i:Nat):(∃ h:i < row.length,rfAt row i=row[i])∨rfAt row i=rf0:=by
  by_cases h:i < row.length
  · exact .inl ⟨h,rf_at h⟩
  · right;unfold rfAt;rw [List.getD_eq_getElem?_getD,List.getElem?_eq_none (by omega)];rfl
theorem text_bo {s:ByteArray} (hs:s.size≤1000) {N:List ByteArray} {row:List Rf} {l:List Nat} (h:ofS s = .ok (N,row,l)) (hsum:(l.map (SC.sz row row.length)).sum=row.length):(genB row l).length < 1000000000∧∀ b∈genB row l,KW.Wb b:=by
  obtain ⟨hr,ht,_⟩:=forms_ok hs h;obtain ⟨hrow,hfl,_⟩:=scope_few hs h;have hnz:=text_nz hs h;have hall:∀ i,Nz row.length (rfAt row i)∧Fo (rfAt row i)∧(rfAt row i).l.length≤100000:=fun i=>by
    rcases rf_cases row i with ⟨hi,e⟩ | e
    · obtain ⟨⟨N',R,R',hs'⟩,_⟩:=hr i hi;refine ⟨by rw [e];exact hnz _ (List.getElem_mem hi),fo_of hs',by rw [e];exact hfl _ (List.getElem_mem hi)⟩
    · rw [e];exact ⟨⟨fun h=>by simp [rf0] at h,fun h=>by simp [rf0] at h,fun _ _ _ _ _ _ _ _ _=>u0⟩,⟨fun h=>by simp [rf0] at h,fun h=>by simp [rf0] at h,fun h=>by simp [rf0] at h,fun h=>by simp [rf0] at h⟩,by simp [rf0]⟩
  have hB:=(seq_bo (g:=SC.sz row row.length) true l (fun i _=>gF_bo (by omega) hall row.length i) 0 1 (by rw [hsum];omega) (by rw [hsum];omega)).block 0;rw [hsum] at hB;refine ⟨by have:=hB.l2;show (genB row l).length < _;unfold genB;simp only [List.length_cons] at this ⊢;omega,fun b hb=>⟨by have:=hB.l3 b hb;omega,hB.kid b hb⟩⟩
end GP
end Go.Proofs.YtehgmmbdlnginaaGreatDoor
