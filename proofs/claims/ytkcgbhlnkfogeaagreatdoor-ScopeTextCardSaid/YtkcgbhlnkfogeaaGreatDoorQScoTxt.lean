/-
  Several texts in one: ScoSi,ScoTxt.
-/
import Derived.Test.YtkcgbhlnkfogeaaGreatDoorQScoR2
import Derived.Test.YtkcgbhlnkfogeaaGreatDoorQScoR11
import Derived.Test.YtkcgbhlnkfogeaaGreatDoorQScoS5
import Derived.Test.YtkcgbhlnkfogeaaGreatDoorQScoShown
import Derived.Test.YtkcgbhlnkfogeaaGreatDoorQScoTab
namespace Go.Proofs.YtkcgbhlnkfogeaaGreatDoor
open Go.RowKit
set_option linter.unusedVariables false
namespace SC
open LX RX SX EX
def nsOf (s:ByteArray):List Nd:=match RX.read s with | .error _=>[] | .ok r=>r.row
def xOf (s:ByteArray):List Fm × List Nat:=match RX.read s with | .error _=>([],[]) | .ok r=>match EX.expand r.row r.tops with | .error _=>([],[]) | .ok x=>x
def rdE (s:ByteArray):Int:=match RX.read s with | .error x=>x.2 | .ok _=>0
def exE (s:ByteArray):Int:=match RX.read s with | .error _=>0 | .ok r=>match EX.expand r.row r.tops with | .error _=>80 | .ok _=>0
theorem ofS_eq (s:ByteArray):ofS s=SC.scope (nsOf s) (xOf s).1 (xOf s).2:=by
  unfold ofS nsOf xOf;cases RX.read s with
  | error e=>rfl
  | ok r =>
    simp only
    cases EX.expand r.row r.tops with
    | error e=>rfl
    | ok x=>rfl
def KOf (s:ByteArray):List ByteArray:=(nsOf s).map (·.s)
structure TxOk (s:ByteArray):Prop where
  gd:Gd (cx (nsOf s) (xOf s).1) (KOf s)
  fms:SM.Fms (xOf s).1 (xOf s).2 (nsOf s).length
  few:∀ x∈nsOf s,x.l.length≤100000
  dlen:(nsOf s).length≤100000
  fl:∀ x∈(xOf s).1,x.l.length≤100000
  flen:(xOf s).1.length≤100000
  tlen:(xOf s).2.length≤99999
  wt:((xOf s).2.map (F (cx (nsOf s) (xOf s).1))).sum≤128160000
  may:RX.may ((nsOf s).map RX.toI)=true
theorem tx_ok (s:ByteArray) (hs:s.size≤1000):TxOk s:=by
  cases hR:RX.read s with
  | error e =>
    have h1:nsOf s=[]:=by unfold nsOf;rw [hR]
    have h2:xOf s=([],[]):=by unfold xOf;rw [hR]
    have hK:KOf s=[]:=by unfold KOf;rw [h1];rfl
    refine ⟨?_,?_,?_,?_,?_,?_,?_,?_,?_⟩
    · rw [h1,h2,hK];exact gd_none
    · rw [h1,h2];exact fms_nil 0
    · rw [h1];exact fun x hx=>by cases hx
    · rw [h1];simp
    · rw [h2];exact fun x hx=>by cases hx
    · rw [h2];simp
    · rw [h2];simp
    · rw [h2];simp
    · rw [h1];rfl
  | ok r =>
    have h1:nsOf s=r.row:=by unfold nsOf;rw [hR]
    have hK:KOf s=r.row.map (·.s):=by unfold KOf;rw [h1]
    have hsz:=RX.read_sizes hR;cases hX:EX.expand r.row r.tops with
    | error e =>
      have h2:xOf s=([],[]):=by unfold xOf;rw [hR];simp only;rw [hX]
      refine ⟨?_,?_,?_,?_,?_,?_,?_,?_,?_⟩
      · rw [h1,h2,hK];exact gd_nil hR hs
      · rw [h1,h2];exact fms_nil _
      · rw [h1];exact fun x hx=>by have:=hsz.2.2 x hx;omega
      · rw [h1];omega
      · rw [h2];exact fun x hx=>by cases hx
      · rw [h2];simp
      · rw [h2];simp
      · rw [h2];simp
      · rw [h1];exact RX.read_may hR
    | ok x =>
      obtain ⟨fs,ts⟩:=x;have h2:xOf s=(fs,ts):=by unfold xOf;rw [hR];simp only;rw [hX]
      have hF:=forms_of hR hX;have hsm:=fms_small (fms_of hR hX);have hlen:=hF.len;have htl:=hF.tlen;refine ⟨?_,?_,?_,?_,?_,?_,?_,?_,?_⟩
      · rw [h1,h2,hK];exact gd_of hR hX hs
      · rw [h1,h2];exact fms_of hR hX
      · rw [h1];exact fun x hx=>by have:=hsz.2.2 x hx;omega
      · rw [h1];omega
      · rw [h2];exact fun x hx=>by have:=hsm x hx;omega
      · rw [h2];simp only;omega
      · rw [h2];simp only;omega
      · rw [h1,h2];exact tops_F hR hX hs
      · rw [h1];exact RX.read_may hR
theorem ev_few {C:Cx} (hfl:∀ i,(fmAt C.fs i).l.length≤100000) {R:Rws} {N:List ByteArray} {p:Sp} {f:Rf} {R':Rws} {ps:List Sp} {N':List ByteArray} (e:evS C R N p=(.mk f R' ps,N')):ps.length≤100000:=by
  have hql:∀ a l,quoL R a l = .mk f R' ps→ps.length≤100000:=fun a l e=>by
    cases l <;> (simp only [quoL,Sn.mk.injEq] at e;obtain ⟨-,-,rfl⟩:=e;simp)
  have hq:∀ a i,quo C.ns R N a i=(.mk f R' ps,N')→ps.length≤100000:=fun a i e=>by
    unfold quo at e;split at e
    · simp only [Prod.mk.injEq,Sn.mk.injEq] at e;obtain ⟨⟨-,-,rfl⟩,-⟩:=e;simp
    split at e
    · simp only [Prod.mk.injEq,Sn.mk.injEq] at e;obtain ⟨⟨-,-,rfl⟩,-⟩:=e;simp
    split at e
    · simp only [Prod.mk.injEq,Sn.mk.injEq] at e;obtain ⟨⟨-,-,rfl⟩,-⟩:=e;simp
    · simp only [Prod.mk.injEq] at e;exact hql _ _ e.1
  cases p with
  | qd a i=>exact hq a i e
  | ql a l=>simp only [evS,Prod.mk.injEq] at e;exact hql a l e.1
  | form i =>
    simp only [evS] at e
    have hl:=hfl i;generalize fmAt C.fs i=g at *;have fin:∀ {x:Rf} {R1:Rws} {qs:List Sp} {M:List ByteArray},((.mk x R1 qs,M):Sn × List ByteArray)=(.mk f R' ps,N')→qs.length≤100000→ps.length≤100000:=by
      intro x R1 qs M e h;simp only [Prod.mk.injEq,Sn.mk.injEq] at e
      obtain ⟨⟨-,-,rfl⟩,-⟩:=e;exact h
    have hm:(g.l.map Sp.form).length≤100000:=by rw [List.length_map];exact hl
    unfold evF at e;split at e
    · exact fin e (by simp)
    split at e
    · exact fin e (by simp)
    split at e
    · exact hq _ _ e
    split at e
    · unfold nameP at e;split at e
      · exact fin e (by simp)
      · split at e
        · exact fin e (by simp)
        · cases e
    split at e
    · exact fin e hm
    split at e
    · unfold setP' at e;split at e
      · exact fin e hm
      · split at e
        · exact fin e hm
        · cases e
    split at e
    · unfold defP at e;split at e
      · cases e
      · exact fin e hm
    split at e
    · unfold callP at e;split at e
      · split at e
        · cases e
        · exact fin e (by rw [List.length_map,List.length_drop];omega)
      · exact fin e hm
    · exact fin e hm
theorem parts_keep {Q:Sp→Su→Su→Nat→Prop} {G:Rf→Prop} {ps:List Sp} {s s':Su} {l:List Nat} (h:Parts Q ps s s' l) (hQ:∀ p s s' i,Q p s s' i→(∀ f∈s.2,G f)→∀ f∈s'.2,G f):(∀ f∈s.2,G f)→∀ f∈s'.2,G f:=by
  induction h with
  | nil s=>exact id
  | cons h1 _ ih=>exact fun hs=>ih (hQ _ _ _ _ h1 hs)
theorem parts_grow {Q:Sp→Su→Su→Nat→Prop} {W:Sp→Nat} {ps:List Sp} {s s':Su} {l:List Nat} (h:Parts Q ps s s' l) (hQ:∀ p s s' i,p∈ps→Q p s s' i→s'.2.length≤s.2.length+W p):s'.2.length≤s.2.length+(ps.map W).sum:=by
  induction h with
  | nil s=>simp
  | cons h1 h2 ih =>
    have a:=hQ _ _ _ _ (List.mem_cons_self ..) h1;have b:=ih (fun p s s' i hp=>hQ p s s' i (List.mem_cons_of_mem _ hp));rw [List.map_cons,List.sum_cons];omega
theorem scope_few {s:ByteArray} (hs:s.size≤1000) {N:List ByteArray} {row:List Rf} {l:List Nat} (h:ofS s = .ok (N,row,l)):row.length≤128160000∧(∀ f∈row,f.l.length≤100000)∧l.length≤100000:=by
  have T:=tx_ok s hs;rw [ofS_eq] at h;have hfl:∀ i,(fmAt (cx (nsOf s) (xOf s).1).fs i).l.length≤100000:=fun i=>by
    show (fmAt (xOf s).1 i).l.length≤100000
    by_cases hi:i < (xOf s).1.length
    · rw [fm_in hi];exact T.fl _ (List.getElem_mem hi)
    · rw [fm_out hi];exact Nat.zero_le _
  have ht:∀ t∈(xOf s).2,t < (cx (nsOf s) (xOf s).1).fs.length:=T.fms.tlt;have h1:=tops_ind T.gd (P:=fun _ p a b _=>((∀ f∈a.2,f.l.length≤100000)→∀ f∈b.2,f.l.length≤100000)∧b.2.length≤a.2.length+wgt (cx (nsOf s) (xOf s).1) p) (fun R p z f R' ps N' s' l _ _ e _ hp=>by
    have hlen:=hp.len;have hfew:=ev_few hfl e;have hw:=ev_wg T.gd.fw R z.1 p;rw [e] at hw;simp only [wgn] at hw
    have hg:=parts_grow (W:=wgt (cx (nsOf s) (xOf s).1)) hp (fun p s s' i _ h=>h.2);refine ⟨fun hs g hg2=>?_,?_⟩
    · rcases List.mem_append.1 hg2 with hg2 | hg2
      · exact parts_keep (G:=fun f=>f.l.length≤100000) hp (fun p s s' i h=>h.1) hs g hg2
      · rw [List.mem_singleton.1 hg2];simp only;omega
    · rw [List.length_append,List.length_singleton];have:s'.2.length≤z.2.length+wgts (cx (nsOf s) (xOf s).1) ps:=hg;omega) ht h
  have hg:=parts_grow (W:=wgt (cx (nsOf s) (xOf s).1)) h1.1 (fun p s s' i _ h=>h.2);rw [List.map_map] at hg;have hw:=T.wt;have he:((xOf s).2.map (wgt (cx (nsOf s) (xOf s).1) ∘ Sp.form)).sum=((xOf s).2.map (F (cx (nsOf s) (xOf s).1))).sum:=rfl;rw [he] at hg;have hl:=h1.1.len;rw [List.length_map] at hl;have:=T.tlen;refine ⟨by simpa using Nat.le_trans hg (by simpa using hw),parts_keep (G:=fun f=>f.l.length≤100000) h1.1 (fun p s s' i h=>h.1) (fun f hf=>by cases hf),by omega⟩
end SC
namespace SR
open LX SX RW6 EX SC SM
open EW (Sl ptr num strs NdR)
def Sit (w:World) (s:ByteArray) (dv fv tv:Value):Prop:=∃ DA dc FA fc T tc,dv = .slice DA (nsOf s).length dc∧NdR w DA (nsOf s)∧fv = .slice FA (xOf s).1.length fc∧FmS w FA (xOf s).1∧tv = .slice T (xOf s).2.length tc∧RdC w [] T (ints (xOf s).2)
theorem Sit.far {w w':World} {s:ByteArray} {dv fv tv:Value} (h:Sit w s dv fv tv) (f:MM.Far [] w w'):Sit w' s dv fv tv:=by
  obtain ⟨DA,dc,FA,fc,T,tc,e1,h1,e2,h2,e3,h3⟩:=h;exact ⟨DA,dc,FA,fc,T,tc,e1,h1.far f,e2,h2.far f,e3,h3.far f (by simp)⟩
def ExQ (w:World) (s:ByteArray) (dv:Value) (e:Ending) (w':World):Prop:=∃ fv tv x3,e = .returned (.tuple #[fv,tv,.int .i64 x3,.int .i64 (exE s)])∧MM.Far [] w w'∧Sit w' s dv fv tv
theorem sit_any (s:ByteArray) (hs:s.size≤1000) (w:World):Calls Tryz.prog 11 #[.string s] w fun e w1=>∃ dv tv x1,e = .returned (.tuple #[dv,tv,.int .i64 x1,.int .i64 (rdE s)])∧MM.Far [] w w1∧∀ w2,MM.Far [] w1 w2→Calls Tryz.prog 12 #[dv,tv] w2 (ExQ w2 s dv):=by
  refine (RM6.rread_any s (by omega) w).mono fun e w1 hQ=>?_
  cases hR:RX.read s with
  | error px =>
    obtain ⟨p,x⟩:=px;rw [hR] at hQ;obtain ⟨rfl,hF⟩:e = .returned (.tuple #[.slice none 0 0,.slice none 0 0,.int .i64 p,.int .i64 x])∧MM.Far [] w w1:=hQ;refine ⟨_,_,p,by unfold rdE;rw [hR],hF,fun w2 f=>?_⟩
    refine (EW.dnilS_any w2).mono fun e w3 ⟨A,c,T,d,he,hFm,hT,hF3⟩=>?_
    have h1:nsOf s=[]:=by unfold nsOf;rw [hR]
    have h2:xOf s=([],[]):=by unfold xOf;rw [hR]
    refine ⟨_,_,0,by rw [he];unfold exE;rw [hR],hF3,none,0,A,c,T,d,by rw [h1];rfl,by rw [h1];exact fun k hk=>by simp at hk,by rw [h2],by rw [h2];exact hFm,by rw [h2],by rw [h2];exact rd_int hT⟩
  | ok r =>
    rw [hR] at hQ;obtain ⟨rv,tv,rs,rfl,hD,hrs⟩:=hQ;have hlen:=read_len hR;refine ⟨rv,tv,0,by unfold rdE;rw [hR],hD.far,fun w2 f=>?_⟩
    have h1:nsOf s=r.row:=by unfold nsOf;rw [hR]
    obtain ⟨DA,dc,hrv,hNd⟩:=EW.done_rows hD;rw [hrs] at hNd;have hn:rs.length=r.row.length:=by rw [← hrs,List.length_map]
    rw [hn] at hrv;refine (EW.dcodeS_any hR hD hrs (by omega) f).mono fun e w3 hQ=>?_
    cases hX:EX.expand r.row r.tops with
    | error a =>
      rw [hX] at hQ;obtain ⟨rfl,hF3⟩:e = .returned (.tuple #[.slice none 0 0,.slice none 0 0,.int .i64 a,.int .i64 80])∧MM.Far [] w2 w3:=hQ;have h2:xOf s=([],[]):=by unfold xOf;rw [hR];simp only;rw [hX]
      refine ⟨_,_,a,by unfold exE;rw [hR];simp only;rw [hX],hF3,DA,dc,none,0,none,0,by rw [h1];exact hrv,by rw [h1];exact hNd.far (f.trans hF3 (by simp)),by rw [h2];rfl,by rw [h2];exact fun k hk=>by simp at hk,by rw [h2];rfl,by rw [h2];exact fun k u hu=>by simp [ints] at hu⟩
    | ok x =>
      rw [hX] at hQ;obtain ⟨FA,fc,T,tc,rfl,hFm,hT,hF3⟩:=hQ;have h2:xOf s=x:=by unfold xOf;rw [hR];simp only;rw [hX]
      exact ⟨_,_,0,by unfold exE;rw [hR];simp only;rw [hX],hF3,DA,dc,FA,fc,T,tc,by rw [h1];exact hrv,by rw [h1];exact hNd.far (f.trans hF3 (by simp)),by rw [h2],by rw [h2];exact hFm,by rw [h2],by rw [h2];exact rd_int hT⟩
theorem dtext_any (s:ByteArray) (hs:s.size≤1000) {w:World} {dv fv tv:Value} (h:Sit w s dv fv tv):Calls Tryz.prog 15 #[dv,fv,tv,.slice none 0 0] w (DsQ w (ofS s)):=by
  have T:=tx_ok s hs;obtain ⟨DA,dc,FA,fc,TA,tc,rfl,hN,rfl,hF,rfl,hT⟩:=h;rw [ofS_eq];have hM:=RW6.dmay_any ((nsOf s).map RX.toI) (nsOf s).length (by rw [List.length_map]) (by have:=T.dlen;omega) (fun x hx=>by
    obtain ⟨y,hy,rfl⟩:=List.mem_map.1 hx;have:=T.few y hy;simp only [RX.toI,List.length_map];omega) DA dc w (NiRow.of_nd hN.row)
  rw [T.may] at hM;exact dscope_any T.gd hN rfl T.few hM hF rfl T.flen T.fms T.fl hT rfl (by have:=T.tlen;omega) (by have:=T.dlen;omega) (by have:=T.wt;omega)
end SR
end Go.Proofs.YtkcgbhlnkfogeaaGreatDoor
namespace Go.Proofs.YtkcgbhlnkfogeaaGreatDoor
open Go.RowKit
set_option linter.unusedVariables false
namespace SM
open LX SX RW6 EX SC
open EW (Sl Bx ptr num strs sz_alloc strs_len)
open RX (Nd)
open RM6 (Kin)
theorem sit_scope (s:ByteArray) (hs:s.size≤1000) {w0 w:World} {g:Nat} {dv fv tv:Value} (h:SR.Sit w0 s dv fv tv) (hP:PT w0) (f:MM.Far [] w0 w) (hN:NW.Nm w g [g] [] (.map none) (.slice none 0 0)) (hg:w0.heap.size≤g) :
    Calls Tryz.prog 14 #[dv,fv,tv,ptr g] w (ScpQ w0 w g (ofS s)):=by
  obtain ⟨DA,dc,FA,fc,T,tc,rfl,hNd,rfl,hFm,rfl,hT⟩:=h;have X:=tx_ok s hs;rw [ofS_eq];have L:Lz w0 ⟨.slice DA (nsOf s).length dc,.slice FA (xOf s).1.length fc,.nilFunc,.nilFunc,.nilFunc,.nilFunc⟩ (cx (nsOf s) (xOf s).1) (KOf s):=⟨X.gd,hP,⟨DA,dc,rfl,hNd⟩,⟨FA,fc,rfl,hFm⟩,fun i=>by
    show (ndAt (nsOf s) i).l.length≤100000
    by_cases hi:i < (nsOf s).length
    · rw [nd_in hi];exact X.few _ (List.getElem_mem hi)
    · rw [nd_out hi];exact Nat.zero_le _,fun i=>by
    show (fmAt (xOf s).1 i).l.length≤100000
    by_cases hi:i < (xOf s).1.length
    · rw [fm_in hi];exact X.fl _ (List.getElem_mem hi)
    · rw [fm_out hi];exact Nat.zero_le _⟩
  exact scope_any L rfl rfl rfl rfl rfl hNd hFm (by have:=X.may;exact this) X.fms hT f hN hg (by have:=X.dlen;omega) (by have:=X.flen;omega) (by have:=X.tlen;omega) (fun x hx=>by have:=X.few x hx;omega) X.fl (Nat.le_trans X.wt (by omega))
theorem sl_row {w:World} {Z:List Nat} {A:Option Addr} {n c:Nat} {l:List Nat} (h:Sl w Z (.slice A n c) (ints l)):IntRow w A l:=fun j hj=>by
  obtain ⟨A',c',e',_,_,h3⟩:=h;injection e' with e1 _ _;subst e1;obtain ⟨g,p,e2,_,hl,hc⟩:=h3 j (.int .i64 ((l[j]:Nat):Int)) (by unfold ints;rw [List.getElem?_map,List.getElem?_eq_getElem hj];rfl);exact ⟨g,p,e2,hl,hc⟩
theorem text_get {N:List ByteArray} {j:Nat} (h:j < N.length):NP.textS N (j:Nat)=N[j]∧NP.textB N (j:Nat)=true:=by
  refine ⟨by simp [NP.textS,h],by simp [NP.textB,h]⟩
set_option maxHeartbeats 8000000 in
set_option maxRecDepth 20000 in
theorem stext_any (s name:ByteArray) (w:World) (hs0:s.size≤9223372036854775807) (hPT:PT w):Calls Tryz.prog 3 #[.string s,.string name] w fun e w'=>e = .returned (.bool true)∧Below w.heap.size w w':=by
  have HSH:=Lib.hid (shown_any w hPT);have HPT:=Lib.hid hPT;clear hPT;by_cases h1000:1000 < s.size
  · have hgt:(1000:Int) < (s.size:Int):=by omega
    clear h1000;go_enter Tryz.func3,Tryz.ntmps3
    go_wp2_with (first
      | (go_at_call 10;(with_reducible refine HSH.out.mono ?_);rintro e w0 ⟨rfl,hF0⟩;have HF0:=Lib.hid hF0;clear hF0))
    go_ret
    exact ⟨rfl,HF0.out.below_nil⟩
  · have hle:¬ (1000:Int) < (s.size:Int):=by omega
    have HS:=Lib.hid (show s.size≤1000 by omega);clear h1000;go_enter Tryz.func3,Tryz.ntmps3
    go_wp2_with (first
      | (go_at_call 10;(with_reducible refine HSH.out.mono ?_);rintro e w0 ⟨rfl,hF0⟩;have HF0:=Lib.hid hF0;have HRD:=Lib.hid (SR.sit_any s HS.out w0);clear hF0)
      | (go_at_call 11;(with_reducible refine HRD.out.mono ?_);rintro e w1 ⟨dv,tv0,x1,rfl,hF1,hE1⟩;have HE1:=Lib.hid (hE1 w1 (MM.Far.refl [] w1));have HF1:=Lib.hid (HF0.out.trans hF1 (by simp));clear hF1 hE1)
      | (go_at_call 12;(with_reducible refine HE1.out.mono ?_);rintro e w2 ⟨fv,tv,x3,rfl,hF2,hSit⟩;have HSI:=Lib.hid hSit;have HF2:=Lib.hid (HF1.out.trans hF2 (by simp));clear hF2 hSit)
      | (go_at_call 13;(with_reducible refine (NW.new_any _).mono ?_);rintro e w3 ⟨g,rfl,hg3,hN3,hF3⟩;have HSC:=Lib.hid (sit_scope s HS.out HSI.out (HPT.out.far HF2.out) hF3 hN3 hg3);have HF3:=Lib.hid hF3;have HG3:=Lib.hid hg3;clear hN3 hF3 hg3))
    cases hX:ofS s with
    | error x =>
      rw [hX] at HSC;have HX:=Lib.hid hX;clear hX
      go_wp2_with (first
        | (go_at_call 14;(with_reducible refine HSC.out.mono ?_);rintro e w4 ⟨rfl,hF4,hN4⟩;have HF24:=Lib.hid (far_gg (MM.Far.refl [] w2) HF3.out HG3.out hF4);have HDS:=Lib.hid (SR.dtext_any s HS.out (HSI.out.far HF24.out));rw [HX.out] at HDS;have HN4:=Lib.hid hN4;clear hF4 hN4)
        | (go_at_call 15;(with_reducible refine HDS.out.mono ?_);rintro e w5 ⟨NA,nc,rfl,hF5,hnm⟩;have HF25:=Lib.hid (HF24.out.trans hF5 (by simp));have HNM:=Lib.hid hnm;have HF45:=Lib.hid hF5;clear hF5 hnm)
        | (go_at_call 16;(refine (rsame_yes [] 0 rfl (by omega) (fun x hx=>by cases hx) none none 0 0 _ (fun k hk=>by simp at hk) (fun k hk=>by simp at hk)).mono ?_);rintro e w6 ⟨rfl,hF6⟩;have HF6:=Lib.hid hF6;clear hF6)
        | (go_at_call 17;(refine (ints_call (l:=[]) (n:=0) rfl (by omega) (fun k hk=>by simp at hk) (fun k hk=>by simp at hk)).mono ?_);rintro e w7 ⟨rfl,hF7⟩;have HF57:=Lib.hid (HF6.out.trans hF7 (by simp));have HNL:=Lib.hid (by have hn:=HN4.out;obtain ⟨S,mv,sv,hn,-⟩:=hn;exact NW.len_any (hn.nil (HF45.out.trans HF57.out (by simp))));clear hF7)
        | (go_at_call 18;(with_reducible refine HNL.out.mono ?_);rintro e w8 ⟨rfl,rfl⟩))
      have HTX:Hid (∀ (wr:World),MM.Far [] w7 wr→∀ (j:Nat) (hj:j < x.2.2.length),Calls Tryz.prog 19 #[ptr g,.int .i64 (j:Nat)] wr fun e w'=>e = .returned (.tuple #[.string x.2.2[j],.bool true])∧MM.Far [] wr w'):=Lib.hid (fun wr f j hj=>by
        obtain ⟨S,mv,sv,hn,-⟩:=HN4.out;have:=NW.text_any (hn.nil ((HF45.out.trans HF57.out (by simp)).trans f (by simp))) (j:Nat);rw [(text_get hj).1,(text_get hj).2] at this;exact this)
      have HNM7:=Lib.hid (HNM.out.far HF57.out (by simp));have HF7:=Lib.hid (HF2.out.trans (HF25.out.trans HF57.out (by simp)) (by simp));clear HSC HDS HN4 HNL HNM;generalize x.2.2=N at *;obtain ⟨nn,hnn⟩:∃ nn,N.length=nn:=⟨_,rfl⟩
      rw [hnn];have HNN:=Lib.hid hnn;have hnb:nn≤maxLen:=by
        obtain ⟨A',c',e,h1,⟨h2,_⟩,_⟩:=HNM7.out;rw [strs_len] at h1;omega
      unfold maxLen at hnb;clear hnn;go_wp2
      go_loopw [106] (fun s106 wr=>∃ j:Nat,j≤nn∧s106 = .int .i64 (j:Int)∧Hid (MM.Far [] w7 wr)) (fun s106 _=>nn - (intOf s106).toNat)
      case atStart=>exact ⟨0,by omega,rfl,Lib.hid (MM.Far.refl _ _)⟩
      case round =>
        obtain ⟨j,hj,rfl,hH⟩:=hrel;by_cases hlt:j < nn
        · have hjn:j < N.length:=by rw [HNN.out];exact hlt
          obtain ⟨A',c',e,_,_,h3⟩:=HNM7.out.far hH.out (by simp);injection e with e1 e2 e3;subst e1 e3;obtain ⟨b,o,rfl,_,_,cc⟩:=h3 j (.string N[j]) (by unfold strs;rw [List.getElem?_map,List.getElem?_eq_getElem hjn];rfl);have HTJ:=Lib.hid (HTX.out _ hH.out j hjn);generalize N[j]=t at *;have hj0:(0:Int)≤(j:Int):=by omega
          have hj1:(j:Int) < (nn:Int):=by omega
          clear e2 h3 hjn;unfold ptr at HTJ
          go_wp2_with (first
            | (go_at_call 19;(with_reducible refine HTJ.out.mono ?_);rintro e w9 ⟨rfl,hF9⟩;have HF9:=Lib.hid (hH.out.trans hF9 (by simp));clear hF9))
          go_roundw
          case rel=>exact ⟨j+1,by omega,by go_num,Lib.hid HF9.out⟩
          case measure=>simp [intOf];omega
        · obtain rfl:j=nn:=by omega
          have HPA:=Lib.hid (prim_any (HPT.out.far (HF7.out.trans hH.out (by simp))) name);clear HTX HNM7;obtain ⟨wo,rfl⟩:∃ wo,wo=wr:=⟨_,rfl⟩
          have HPB:=Lib.hid (fun (w:World)=>SR.rprim_any w name);unfold num at HPA;generalize isPrim name=ip at *;generalize primO name=po at *;generalize primK name=pk at *
          go_wp2_with (first
            | (go_at_call 20;(with_reducible refine HPA.out.mono ?_);rintro e wA ⟨rfl,hFA⟩;have HFA:=Lib.hid (hH.out.trans hFA (by simp));clear hFA)
            | (go_at_call 21;(with_reducible refine (HPB.out _).mono ?_);rintro e wB ⟨rfl,hFB⟩;have HFB:=Lib.hid (HFA.out.trans hFB (by simp));clear hFB))
          go_ret
          exact ⟨by simp,(HF7.out.trans HFB.out (by simp)).below_nil⟩
    | ok x =>
      obtain ⟨N,row,tl⟩:=x;obtain ⟨hb1,hb2,hb3⟩:=scope_few HS.out hX;rw [hX] at HSC;have HX:=Lib.hid hX;have HB2:=Lib.hid hb2;clear hX hb2;obtain ⟨rn,hrn⟩:∃ rn,row.length=rn:=⟨_,rfl⟩
      obtain ⟨tn,htn⟩:∃ tn,tl.length=tn:=⟨_,rfl⟩
      have HRN:=Lib.hid hrn;have HTN:=Lib.hid htn;rw [hrn] at hb1;rw [htn] at hb3;clear hrn htn
      go_wp2_with (first
        | (go_at_call 14;(with_reducible refine HSC.out.mono ?_);rintro e w4 ⟨cv,ctv,rs,rfl,hF4,hN4,hrs4,hrow4,hk4⟩;obtain ⟨FA4,fc4,rfl,-,-,-,hRf⟩:=rf_rows hrow4 hk4;obtain ⟨TA4,tc4,rfl,-,-,-,hTr⟩:=tops_row hk4;(have hrl:rs.length=rn:=by rw [← HRN.out];(have hrs4:rs.map (·.1)=row:=hrs4);rw [← hrs4,List.length_map]);(replace hrs4:rs.map (·.1)=row:=hrs4);rw [hrs4] at hRf;rw [hrl,HTN.out];have HRF:=Lib.hid hRf;have HTR:=Lib.hid hTr;have HF24:=Lib.hid (far_gg (MM.Far.refl [] w2) HF3.out HG3.out hF4);have HDS:=Lib.hid (SR.dtext_any s HS.out (HSI.out.far HF24.out));rw [HX.out] at HDS;have HN4:=Lib.hid hN4;clear hF4 hN4 hRf hTr hrow4 hk4 hrs4 hrl)
        | (go_at_call 15;(with_reducible refine HDS.out.mono ?_);rintro e w5 ⟨RA,rc,TA,tc,NA,nc,rfl,hF5,hrf,hrc,htr,hnm⟩;simp only;rw [HRN.out,HTN.out];have HF25:=Lib.hid (HF24.out.trans hF5 (by simp));have HNM:=Lib.hid hnm;have HF45:=Lib.hid hF5;have HRF5:=Lib.hid hrf;have HTR5:=Lib.hid htr;clear hF5 hnm hrf htr hrc)
        | (go_at_call 16;(refine (rsame_yes row rn HRN.out (by omega) HB2.out _ _ _ _ _ (HRF.out.far HF45.out) HRF5.out.row).mono ?_);rintro e w6 ⟨rfl,hF6⟩;have HF6:=Lib.hid hF6;clear hF6)
        | (go_at_call 17;(refine (ints_call (l:=tl) (n:=tn) HTN.out (by omega) (HTR.out.far (HF45.out.trans HF6.out (by simp))) ((sl_row HTR5.out).far HF6.out)).mono ?_);rintro e w7 ⟨rfl,hF7⟩;have HF57:=Lib.hid (HF6.out.trans hF7 (by simp));have HNL:=Lib.hid (by have hn:=HN4.out;obtain ⟨S,mv,sv,hn,-⟩:=hn;exact NW.len_any (hn.nil (HF45.out.trans HF57.out (by simp))));clear hF7)
        | (go_at_call 18;(with_reducible refine HNL.out.mono ?_);rintro e w8 ⟨rfl,rfl⟩))
      have HTX:Hid (∀ (wr:World),MM.Far [] w7 wr→∀ (j:Nat) (hj:j < N.length),Calls Tryz.prog 19 #[ptr g,.int .i64 (j:Nat)] wr fun e w'=>e = .returned (.tuple #[.string N[j],.bool true])∧MM.Far [] wr w'):=Lib.hid (fun wr f j hj=>by
        obtain ⟨S,mv,sv,hn,-⟩:=HN4.out;have:=NW.text_any (hn.nil ((HF45.out.trans HF57.out (by simp)).trans f (by simp))) (j:Nat);rw [(text_get hj).1,(text_get hj).2] at this;exact this)
      have HNM7:=Lib.hid (HNM.out.far HF57.out (by simp));have HF7:=Lib.hid (HF2.out.trans (HF25.out.trans HF57.out (by simp)) (by simp));clear HSC HDS HN4 HNL HNM;obtain ⟨nn,hnn⟩:∃ nn,N.length=nn:=⟨_,rfl⟩
      rw [hnn];have HNN:=Lib.hid hnn;have hnb:nn≤maxLen:=by
        obtain ⟨A',c',e,h1,⟨h2,_⟩,_⟩:=HNM7.out;rw [strs_len] at h1;omega
      unfold maxLen at hnb;clear hnn;go_wp2
      go_loopw [106] (fun s106 wr=>∃ j:Nat,j≤nn∧s106 = .int .i64 (j:Int)∧Hid (MM.Far [] w7 wr)) (fun s106 _=>nn - (intOf s106).toNat)
      case atStart=>exact ⟨0,by omega,rfl,Lib.hid (MM.Far.refl _ _)⟩
      case round =>
        obtain ⟨j,hj,rfl,hH⟩:=hrel;by_cases hlt:j < nn
        · have hjn:j < N.length:=by rw [HNN.out];exact hlt
          obtain ⟨A',c',e,_,_,h3⟩:=HNM7.out.far hH.out (by simp);injection e with e1 e2 e3;subst e1 e3;obtain ⟨b,o,rfl,_,_,cc⟩:=h3 j (.string N[j]) (by unfold strs;rw [List.getElem?_map,List.getElem?_eq_getElem hjn];rfl);have HTJ:=Lib.hid (HTX.out _ hH.out j hjn);generalize N[j]=t at *;have hj0:(0:Int)≤(j:Int):=by omega
          have hj1:(j:Int) < (nn:Int):=by omega
          clear e2 h3 hjn;unfold ptr at HTJ
          go_wp2_with (first
            | (go_at_call 19;(with_reducible refine HTJ.out.mono ?_);rintro e w9 ⟨rfl,hF9⟩;have HF9:=Lib.hid (hH.out.trans hF9 (by simp));clear hF9))
          go_roundw
          case rel=>exact ⟨j+1,by omega,by go_num,Lib.hid HF9.out⟩
          case measure=>simp [intOf];omega
        · obtain rfl:j=nn:=by omega
          have HPA:=Lib.hid (prim_any (HPT.out.far (HF7.out.trans hH.out (by simp))) name);clear HTX HNM7;obtain ⟨wo,rfl⟩:∃ wo,wo=wr:=⟨_,rfl⟩
          have HPB:=Lib.hid (fun (w:World)=>SR.rprim_any w name);unfold num at HPA;generalize isPrim name=ip at *;generalize primO name=po at *;generalize primK name=pk at *
          go_wp2_with (first
            | (go_at_call 20;(with_reducible refine HPA.out.mono ?_);rintro e wA ⟨rfl,hFA⟩;have HFA:=Lib.hid (hH.out.trans hFA (by simp));clear hFA)
            | (go_at_call 21;(with_reducible refine (HPB.out _).mono ?_);rintro e wB ⟨rfl,hFB⟩;have HFB:=Lib.hid (HFA.out.trans hFB (by simp));clear hFB))
          go_ret
          exact ⟨by simp,(HF7.out.trans HFB.out (by simp)).below_nil⟩
end SM
end Go.Proofs.YtkcgbhlnkfogeaaGreatDoor
