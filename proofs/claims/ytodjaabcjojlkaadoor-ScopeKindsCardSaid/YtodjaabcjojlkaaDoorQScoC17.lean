/-
  Contracts of layer 9's code: plan. Conditions: sizes.
-/
import Derived.Test.YtodjaabcjojlkaaDoorQScoC16
namespace Go.Proofs.YtodjaabcjojlkaaDoor
open Go.RowKit
set_option linter.unusedVariables false
namespace SM
open LX SX RW6 EX SC
open EW (Sl Bx ptr num strs bx_new z_alloc sz_alloc z_far z_drew made_list sl_new keep2 keep3 keep4 ints_len int_head NdR FmR Bx.cons)
def rA (R:Rws):Sn→Rws
  | .mk _ R' _=>R'
  | .bad _ _=>R
theorem rA_name (C:Cx) (R:Rws) (N:List ByteArray) (f:Fm):rA R (nameP C R N f).1=R:=by
  unfold nameP;split
  · rfl
  · split <;> rfl
theorem rA_set (C:Cx) (R:Rws) (N:List ByteArray) (f:Fm):rA R (setP' C R N f).1=R:=by
  unfold setP';split
  · rfl
  · split <;> rfl
theorem rA_def (R:Rws) (N:List ByteArray) (f:Fm):rA R (defP R N f).1=R:=by
  unfold defP;split <;> rfl
theorem rA_call (C:Cx) (R:Rws) (f:Fm):rA R (callP C R f)=R:=by
  unfold callP;split
  · split <;> rfl
  · rfl
theorem rA_quoL (R:Rws) (a:Int) (l:List Nat):rA R (quoL R a l)=R:=by cases l <;> rfl
theorem rA_quo (ns:List RX.Nd) (R:Rws) (N:List ByteArray) (a:Int) (i:Nat):rA R (SC.quo ns R N a i).1=R:=by
  unfold SC.quo;split
  · rfl
  split
  · rfl
  split
  · rfl
  · exact rA_quoL R a _
theorem bnd_few {R:Rws} (h:∀ r∈R,r.Nodup∧r.length≤100):(bnd R).length≤100*R.length:=by
  rw [bnd_len];unfold sumR;induction R with
  | nil=>simp
  | cons r R ih =>
    rw [List.map_cons,List.sum_cons,List.length_cons];have h1:=(h r (List.mem_cons_self ..)).2;have h2:=ih (fun x hx=>h x (List.mem_cons_of_mem _ hx));omega
section
variable {w0 w w1 W:World} {Y Z:List Nat} {q g:Nat} {h:Hd} {C:Cx} {K:List ByteArray} {R:Rws} {N:List ByteArray}
set_option maxHeartbeats 4000000 in
set_option maxRecDepth 20000 in
theorem plan_any (E:Ev w0 w Y Z q g h C K R N) {i:Nat} (hi:i < C.fs.length) {PA LA:Option Addr} {pc lc:Nat} (hl:Sl w Z (.slice LA (fmAt C.fs i).l.length lc) (ints (fmAt C.fs i).l)) (hp:Sl w Z (.slice PA (fmAt C.fs i).p.length pc) (strs (fmAt C.fs i).p)) (hR:R.length < 1000000000) :
    Calls Tryd.prog 52 #[ptr q,fmV (fmAt C.fs i) (.slice PA (fmAt C.fs i).p.length pc) (.slice LA (fmAt C.fs i).l.length lc)] w (EvQ w0 w Y Z q g h C (rA R (evF C R N (fmAt C.fs i)).1) (evF C R N (fmAt C.fs i)).2 (evF C R N (fmAt C.fs i)).1):=by
  have hgf:=E.lz.gd.form i hi;have hnm:=E.lz.gd.nm i hi;have hat:=E.lz.gd.at_ i hi;have hqu:=E.lz.gd.quo i;have hfl:=E.lz.fl i;have hin:∀ p∈(fmAt C.fs i).l,p < C.fs.length:=fun p hp=>by have:=E.lz.gd.fw.lt i p hp;omega
  have hfb:=bnd_few E.rn;generalize fmAt C.fs i=f at *;obtain ⟨fk,fa,fn,fs,fp,l⟩:=f;simp only at hl hp hgf hnm hat hqu hfl hin
  have hs:fs.size≤140737488355328:=by
    rcases hnm.2.2.2.2 with h | h | h
    · have h:fs=emp:=h;rw [h];decide
    · have:fs.size≤32:=h.1.2;omega
    · have h:fs=EX.blank:=h;rw [h];decide
  obtain ⟨m,hm⟩:∃ m,l.length=m:=⟨_,rfl⟩
  obtain ⟨np,hnp⟩:∃ np,fp.length=np:=⟨_,rfl⟩
  unfold fmV;simp only [hm,hnp]
  rw [hm] at hl hfl;rw [hnp] at hp;obtain ⟨k,hk⟩:∃ k,w.heap.size=k:=⟨_,rfl⟩
  obtain ⟨OB,hOB⟩:∃ o:Obj,.cells #[.int .u8 fk,num fa,num fn,num 0,.string fs,.slice PA np pc,.int .u64 0,.slice LA m lc] 33=o:=⟨_,rfl⟩
  obtain ⟨W,hW⟩:∃ W,(w.alloc OB).alloc zS=W:=⟨_,rfl⟩
  have F0:MM.Far [] w W:=by rw [← hW];exact ((MM.Far.refl [] w).alloc _).alloc _
  have BL:MM.Row W k 33 [.int .u8 fk,num fa,num fn,num 0,.string fs,.slice PA np pc,.int .u64 0,.slice LA m lc]:=by
    rw [← hW,← hOB];exact (EW.row_new 33 _ hk).alloc _
  have HB:Hid (SnBox W (k+1)):=Lib.hid (by rw [← hW];exact SnBox.new (by rw [sz_alloc,hk]));have HBW:Hid (k+1 < W.heap.size):=Lib.hid HB.out.lt;have E1:=E.box F0 (by omega:w.heap.size≤k+1) HB.out.lt;have MZ:∀ x∈(k+1)::Z,x∈Z∨w.heap.size≤x:=fun x hx=>(List.mem_cons.1 hx).elim (fun e=>.inr (by omega)) .inl
  have hlW:=(hl.more MZ).far F0 (by simp);have hpW:=(hp.more MZ).far F0 (by simp);have z0:=BL.at (i:=0) rfl;have z1:=BL.at (i:=1) rfl;have z2:=BL.at (i:=2) rfl;have z3:=BL.at (i:=3) rfl;have z4:=BL.at (i:=4) rfl;have z5:=BL.at (i:=5) rfl;have z6:=BL.at (i:=6) rfl;have z7:=BL.at (i:=7) rfl;have HEB:=Lib.hid E.sc.eb;have HBL:=Lib.hid BL;have HF:=Lib.hid F0;have HK:=Lib.hid hk;by_cases k1:fk=1
  · subst k1;have hev:evF C R N ⟨1,fa,fn,fs,fp,l⟩=(.mk (cst fa (WP.intW fn)) R [],N):=rfl;rw [hev];have HC:=Lib.hid ((number_any W (Z:=(k+1)::Z) q fa fn (hnm.1 rfl) R).mono (fun e w' hq=>EvQ.of E1.sc E1.sub hq));simp only [rA]
    clear E E1 hl hm hs BL F0 hlW hpW hp hnp hgf hnm hat hqu hfl hin MZ hfb hR hi hev;subst hW;subst hOB;subst hk;unfold zS num at *;unfold ptr at *;go_enter Tryd.func52,Tryd.ntmps52
    go_wp2_with (first
      | (go_at_call 57;(with_reducible refine HC.out.mono ?_);rintro e w1 ⟨v,Y1,rfl,hY1,hF1,hS1,hI1⟩;obtain ⟨e1,f1,A1,m1,c1,rfl,hl1⟩:=hI1.form;have HY1:=Lib.hid hY1;have HF1:=Lib.hid hF1;have HS1:=Lib.hid hS1;have HI1:=Lib.hid hI1;have HB1:=Lib.hid (HB.out.far hF1 (fun hm=>by have:=HEB.out.y _ hm;omega));clear hY1 hF1 hS1 hI1;obtain ⟨v0,v1,v2,v3,v4,v5,v6,v7,v8,v9,y0,y1,y2,y3,y4,y5,y6,y7,y8,y9,hfz⟩:=HB1.out.cells;obtain ⟨fk,fa,fn,fA,fs,fw,fl⟩:=f1;simp only at hl1;subst hl1;unfold snV num))
    exact fin_ev rfl rfl rfl HEB.out HF.out (by omega) HBW.out HY1.out HF1.out HS1.out HB1.out HI1.out
  by_cases k2:fk=2
  · subst k2;have hev:evF C R N ⟨2,fa,fn,fs,fp,l⟩=(.mk (cst fa (WP.boolW (decide (fn=1)))) R [],N):=rfl;rw [hev];have HBO:=Lib.hid (fun b=>WW.bool_any b W.drew);have HC:=Lib.hid (fun wd=>constant_any W.drew (Z:=(k+1)::Z) q fa wd R);have HE1:=Lib.hid E1;simp only [rA]
    clear E E1 hl hm hs BL F0 hlW hpW hp hnp hgf hnm hat hqu hfl hin MZ hfb hR hi hev;subst hW;subst hOB;subst hk;unfold zS num at *;unfold ptr at *;go_enter Tryd.func52,Tryd.ntmps52
    go_upto_region 5 with fail
    generalize (w.alloc (.cells #[.int .u8 2,.int .i64 fa,.int .i64 fn,.int .i64 0,.string fs,.slice PA np pc,.int .u64 0,.slice LA m lc] 33)).alloc (.cells #[.int .i64 0,.int .u8 0,.int .i64 0,.int .i64 0,.int .i64 0,.string ⟨#[]⟩,.slice none 0 0,.int .u64 0,.slice none 0 0,.slice none 0 0] 100)=W at *
    go_region_held3 (fun w'=>w'.cell? ⟨w.heap.size,1,none⟩=some (.int .i64 fa)∧w'.cell? ⟨w.heap.size,2,none⟩=some (.int .i64 fn)) (first | (with_reducible assumption) | go_keep) (first
      | (go_at_call 59;(with_reducible refine (HBO.out _).mono ?_);rintro e w2 ⟨rfl,rfl⟩)
      | (go_at_call 58;(with_reducible refine (HC.out _).mono ?_);rintro e w1 ⟨v,rfl,hI,hF1⟩;have hk1:w1.cell? ⟨w.heap.size,1,none⟩=some (.int .i64 fa)∧w1.cell? ⟨w.heap.size,2,none⟩=some (.int .i64 fn):=⟨((HBL.out.far ((MM.Far.refl [] W).drew) (by simp)).far hF1 (by simp)).at (i:=1) rfl,((HBL.out.far ((MM.Far.refl [] W).drew) (by simp)).far hF1 (by simp)).at (i:=2) rfl⟩;obtain ⟨e1,f1,A1,m1,c1,rfl,hl1⟩:=hI.form;have HI1:=Lib.hid hI;have HF1:=Lib.hid (((MM.Far.refl [] W).drew).trans hF1 (by simp));have HB1:=Lib.hid (HB.out.far HF1.out (by simp));clear hI hF1;obtain ⟨v0,v1,v2,v3,v4,v5,v6,v7,v8,v9,y0,y1,y2,y3,y4,y5,y6,y7,y8,y9,hfz⟩:=HB1.out.cells;obtain ⟨fk,fa,fn,fA,fs,fw,fl⟩:=f1;simp only at hl1;subst hl1;unfold snV num))
    go_wp2;exact fin_ev rfl rfl rfl HEB.out HF.out (by omega) HBW.out (Yto.refl _ _) (HF1.out.mono (by simp)) (HE1.out.sc.to HF1.out) HB1.out (HI1.out.more (fun b hb=>(List.mem_append.1 hb).elim (fun h=>.inl (HE1.out.sub b h)) .inl))
  by_cases k3:fk=3
  · subst k3;have hev:evF C R N ⟨3,fa,fn,fs,fp,l⟩=SC.quo C.ns R N fa fn.toNat:=rfl;rw [hev];have hq3:=hqu rfl;rw [rA_quo];have HC:=Lib.hid (quote_any E1 fa (i:=fn.toNat) (by omega));have e3:num ((fn.toNat:Nat):Int)=num fn:=by rw [show ((fn.toNat:Nat):Int)=fn by omega]
    rw [e3] at HC;generalize (SC.quo C.ns R N fa fn.toNat).1=sn at *;generalize (SC.quo C.ns R N fa fn.toNat).2=N2 at *;clear e3 hq3;clear E E1 hl hm hs BL F0 hlW hpW hp hnp hgf hnm hat hqu hfl hin MZ hfb hR hi hev;subst hW;subst hOB;subst hk;unfold zS num at *;unfold ptr at *;go_enter Tryd.func52,Tryd.ntmps52
    go_wp2_with (first
      | (go_at_call 60;(with_reducible refine HC.out.mono ?_);rintro e w1 ⟨v,Y1,rfl,hY1,hF1,hS1,hI1⟩;obtain ⟨e1,f1,A1,m1,c1,rfl,hl1⟩:=hI1.form;have HY1:=Lib.hid hY1;have HF1:=Lib.hid hF1;have HS1:=Lib.hid hS1;have HI1:=Lib.hid hI1;have HB1:=Lib.hid (HB.out.far hF1 (fun hm=>by have:=HEB.out.y _ hm;omega));clear hY1 hF1 hS1 hI1;obtain ⟨v0,v1,v2,v3,v4,v5,v6,v7,v8,v9,y0,y1,y2,y3,y4,y5,y6,y7,y8,y9,hfz⟩:=HB1.out.cells;obtain ⟨fk,fa,fn,fA,fs,fw,fl⟩:=f1;simp only at hl1;subst hl1;unfold snV num))
    exact fin_ev rfl rfl rfl HEB.out HF.out (by omega) HBW.out HY1.out HF1.out HS1.out HB1.out HI1.out
  by_cases k4:fk=4
  · subst k4;have hev:evF C R N ⟨4,fa,fn,fs,fp,l⟩=nameP C R N ⟨4,fa,fn,fs,fp,l⟩:=rfl;rw [hev];rw [rA_name];have HC:=Lib.hid (name_any E1 ⟨4,fa,fn,fs,fp,l⟩ (PA:=PA) (np:=np) (pc:=pc) hlW hm (by omega) hs);unfold fmV at HC;simp only at HC ⊢
    generalize (nameP C R N ⟨4,fa,fn,fs,fp,l⟩).1=sn at *;generalize (nameP C R N ⟨4,fa,fn,fs,fp,l⟩).2=N2 at *;clear E E1 hl hm hs BL F0 hlW hpW hp hnp hgf hnm hat hqu hfl hin MZ hfb hR hi hev;subst hW;subst hOB;subst hk;unfold zS num at *;unfold ptr at *;go_enter Tryd.func52,Tryd.ntmps52
    go_wp2_with (first
      | (go_at_call 61;(with_reducible refine HC.out.mono ?_);rintro e w1 ⟨v,Y1,rfl,hY1,hF1,hS1,hI1⟩;obtain ⟨e1,f1,A1,m1,c1,rfl,hl1⟩:=hI1.form;have HY1:=Lib.hid hY1;have HF1:=Lib.hid hF1;have HS1:=Lib.hid hS1;have HI1:=Lib.hid hI1;have HB1:=Lib.hid (HB.out.far hF1 (fun hm=>by have:=HEB.out.y _ hm;omega));clear hY1 hF1 hS1 hI1;obtain ⟨v0,v1,v2,v3,v4,v5,v6,v7,v8,v9,y0,y1,y2,y3,y4,y5,y6,y7,y8,y9,hfz⟩:=HB1.out.cells;obtain ⟨fk,fa,fn,fA,fs,fw,fl⟩:=f1;simp only at hl1;subst hl1;unfold snV num))
    exact fin_ev rfl rfl rfl HEB.out HF.out (by omega) HBW.out HY1.out HF1.out HS1.out HB1.out HI1.out
  by_cases k6:fk=6
  · subst k6;have hev:evF C R N ⟨6,fa,fn,fs,fp,l⟩=(.mk ⟨6,fa,fp.length,0,emp,0,[]⟩ (fp::R) (l.map .form),N):=rfl;rw [hev];have HC:=Lib.hid (function_any E1 ⟨6,fa,fn,fs,fp,l⟩ hlW hm (by omega) hs rfl hpW hnp hgf.names.nodup (by have:=hgf.names.few;simp only at this;omega) (by omega) (by omega));unfold fmV at HC;simp only at HC ⊢
    simp only [rA,hnp]
    clear E E1 hl hm hs BL F0 hlW hpW hp hnp hgf hnm hat hqu hfl hin MZ hfb hR hi hev;subst hW;subst hOB;subst hk;unfold zS num at *;unfold ptr at *;go_enter Tryd.func52,Tryd.ntmps52
    go_wp2_with (first
      | (go_at_call 62;(with_reducible refine HC.out.mono ?_);rintro e w1 ⟨v,Y1,rfl,hY1,hF1,hS1,hI1⟩;obtain ⟨e1,f1,A1,m1,c1,rfl,hl1⟩:=hI1.form;have HY1:=Lib.hid hY1;have HF1:=Lib.hid hF1;have HS1:=Lib.hid hS1;have HI1:=Lib.hid hI1;have HB1:=Lib.hid (HB.out.far hF1 (fun hm=>by have:=HEB.out.y _ hm;omega));clear hY1 hF1 hS1 hI1;obtain ⟨v0,v1,v2,v3,v4,v5,v6,v7,v8,v9,y0,y1,y2,y3,y4,y5,y6,y7,y8,y9,hfz⟩:=HB1.out.cells;obtain ⟨fk,fa,fn,fA,fs,fw,fl⟩:=f1;simp only at hl1;subst hl1;unfold snV num))
    exact fin_ev rfl rfl rfl HEB.out HF.out (by omega) HBW.out HY1.out HF1.out HS1.out HB1.out HI1.out
  by_cases k7:fk=7
  · subst k7;have hev:evF C R N ⟨7,fa,fn,fs,fp,l⟩=setP' C R N ⟨7,fa,fn,fs,fp,l⟩:=rfl;rw [hev];rw [rA_set];have HC:=Lib.hid (set_any E1 ⟨7,fa,fn,fs,fp,l⟩ (PA:=PA) (np:=np) (pc:=pc) hlW hm (by omega) hs rfl);unfold fmV at HC;simp only at HC ⊢
    generalize (setP' C R N ⟨7,fa,fn,fs,fp,l⟩).1=sn at *;generalize (setP' C R N ⟨7,fa,fn,fs,fp,l⟩).2=N2 at *;clear E E1 hl hm hs BL F0 hlW hpW hp hnp hgf hnm hat hqu hfl hin MZ hfb hR hi hev;subst hW;subst hOB;subst hk;unfold zS num at *;unfold ptr at *;go_enter Tryd.func52,Tryd.ntmps52
    go_wp2_with (first
      | (go_at_call 63;(with_reducible refine HC.out.mono ?_);rintro e w1 ⟨v,Y1,rfl,hY1,hF1,hS1,hI1⟩;obtain ⟨e1,f1,A1,m1,c1,rfl,hl1⟩:=hI1.form;have HY1:=Lib.hid hY1;have HF1:=Lib.hid hF1;have HS1:=Lib.hid hS1;have HI1:=Lib.hid hI1;have HB1:=Lib.hid (HB.out.far hF1 (fun hm=>by have:=HEB.out.y _ hm;omega));clear hY1 hF1 hS1 hI1;obtain ⟨v0,v1,v2,v3,v4,v5,v6,v7,v8,v9,y0,y1,y2,y3,y4,y5,y6,y7,y8,y9,hfz⟩:=HB1.out.cells;obtain ⟨fk,fa,fn,fA,fs,fw,fl⟩:=f1;simp only at hl1;subst hl1;unfold snV num))
    exact fin_ev rfl rfl rfl HEB.out HF.out (by omega) HBW.out HY1.out HF1.out HS1.out HB1.out HI1.out
  by_cases k9:fk=9
  · subst k9;have hev:evF C R N ⟨9,fa,fn,fs,fp,l⟩=defP R N ⟨9,fa,fn,fs,fp,l⟩:=rfl;rw [hev];rw [rA_def];have HC:=Lib.hid (define_any E1 ⟨9,fa,fn,fs,fp,l⟩ (PA:=PA) (np:=np) (pc:=pc) hlW hm (by omega) hs rfl (hnm.2.2.1 rfl));unfold fmV at HC;simp only at HC ⊢
    generalize (defP R N ⟨9,fa,fn,fs,fp,l⟩).1=sn at *;generalize (defP R N ⟨9,fa,fn,fs,fp,l⟩).2=N2 at *;clear E E1 hl hm hs BL F0 hlW hpW hp hnp hgf hnm hat hqu hfl hin MZ hfb hR hi hev;subst hW;subst hOB;subst hk;unfold zS num at *;unfold ptr at *;go_enter Tryd.func52,Tryd.ntmps52
    go_wp2_with (first
      | (go_at_call 64;(with_reducible refine HC.out.mono ?_);rintro e w1 ⟨v,Y1,rfl,hY1,hF1,hS1,hI1⟩;obtain ⟨e1,f1,A1,m1,c1,rfl,hl1⟩:=hI1.form;have HY1:=Lib.hid hY1;have HF1:=Lib.hid hF1;have HS1:=Lib.hid hS1;have HI1:=Lib.hid hI1;have HB1:=Lib.hid (HB.out.far hF1 (fun hm=>by have:=HEB.out.y _ hm;omega));clear hY1 hF1 hS1 hI1;obtain ⟨v0,v1,v2,v3,v4,v5,v6,v7,v8,v9,y0,y1,y2,y3,y4,y5,y6,y7,y8,y9,hfz⟩:=HB1.out.cells;obtain ⟨fk,fa,fn,fA,fs,fw,fl⟩:=f1;simp only at hl1;subst hl1;unfold snV num))
    exact fin_ev rfl rfl rfl HEB.out HF.out (by omega) HBW.out HY1.out HF1.out HS1.out HB1.out HI1.out
  by_cases k10:fk=10
  · subst k10;have hev:evF C R N ⟨10,fa,fn,fs,fp,l⟩=(callP C R ⟨10,fa,fn,fs,fp,l⟩,N):=rfl;rw [hev];have HC:=Lib.hid (call_any E1 ⟨10,fa,fn,fs,fp,l⟩ (PA:=PA) (np:=np) (pc:=pc) hlW hm (by omega) hs rfl (by intro e;have e:l=[]:=e;rw [e] at hgf;have:=hgf.kind;unfold GoodK at this;simp at this) hin);unfold fmV at HC;simp only at HC ⊢
    simp only [rA_call]
    generalize callP C R ⟨10,fa,fn,fs,fp,l⟩=sn at *;clear E E1 hl hm hs BL F0 hlW hpW hp hnp hgf hnm hat hqu hfl hin MZ hfb hR hi hev;subst hW;subst hOB;subst hk;unfold zS num at *;unfold ptr at *;go_enter Tryd.func52,Tryd.ntmps52
    go_wp2_with (first
      | (go_at_call 65;(with_reducible refine HC.out.mono ?_);rintro e w1 ⟨v,Y1,rfl,hY1,hF1,hS1,hI1⟩;obtain ⟨e1,f1,A1,m1,c1,rfl,hl1⟩:=hI1.form;have HY1:=Lib.hid hY1;have HF1:=Lib.hid hF1;have HS1:=Lib.hid hS1;have HI1:=Lib.hid hI1;have HB1:=Lib.hid (HB.out.far hF1 (fun hm=>by have:=HEB.out.y _ hm;omega));clear hY1 hF1 hS1 hI1;obtain ⟨v0,v1,v2,v3,v4,v5,v6,v7,v8,v9,y0,y1,y2,y3,y4,y5,y6,y7,y8,y9,hfz⟩:=HB1.out.cells;obtain ⟨fk,fa,fn,fA,fs,fw,fl⟩:=f1;simp only at hl1;subst hl1;unfold snV num))
    exact fin_ev rfl rfl rfl HEB.out HF.out (by omega) HBW.out HY1.out HF1.out HS1.out HB1.out HI1.out
  have hev:evF C R N ⟨fk,fa,fn,fs,fp,l⟩=(.mk ⟨fk,fa,0,0,emp,0,[]⟩ R (l.map .form),N):=by
    unfold evF;rw [if_neg k1,if_neg k2,if_neg k3,if_neg k4,if_neg k6,if_neg k7,if_neg k9,if_neg k10]
  rw [hev];simp only [rA]
  have HC:=Lib.hid ((keep_any W q E1.z ⟨fk,fa,fn,fs,fp,l⟩ R (PA:=PA) (np:=np) (pc:=pc) hlW hm (by omega)).mono (fun e w' hq=>EvQ.of E1.sc E1.sub hq));unfold fmV at HC;simp only at HC ⊢
  have g1:(fk == 1)=false:=by simp [k1]
  have g2:(fk == 2)=false:=by simp [k2]
  have g3:(fk == 3)=false:=by simp [k3]
  have g4:(fk == 4)=false:=by simp [k4]
  have g6:(fk == 6)=false:=by simp [k6]
  have g7:(fk == 7)=false:=by simp [k7]
  have g9:(fk == 9)=false:=by simp [k9]
  have g10:(fk == 10)=false:=by simp [k10]
  clear E E1 hl hm hs BL F0 hlW hpW hp hnp hgf hnm hat hqu hfl hin MZ hfb hR hi hev;subst hW;subst hOB;subst hk;unfold zS num at *;unfold ptr at *;go_enter Tryd.func52,Tryd.ntmps52
  go_wp2_with (first
    | (go_at_call 66;(with_reducible refine HC.out.mono ?_);rintro e w1 ⟨v,Y1,rfl,hY1,hF1,hS1,hI1⟩;obtain ⟨e1,f1,A1,m1,c1,rfl,hl1⟩:=hI1.form;have HY1:=Lib.hid hY1;have HF1:=Lib.hid hF1;have HS1:=Lib.hid hS1;have HI1:=Lib.hid hI1;have HB1:=Lib.hid (HB.out.far hF1 (fun hm=>by have:=HEB.out.y _ hm;omega));clear hY1 hF1 hS1 hI1;obtain ⟨v0,v1,v2,v3,v4,v5,v6,v7,v8,v9,y0,y1,y2,y3,y4,y5,y6,y7,y8,y9,hfz⟩:=HB1.out.cells;obtain ⟨fk,fa,fn,fA,fs,fw,fl⟩:=f1;simp only at hl1;subst hl1;unfold snV num))
  exact fin_ev rfl rfl rfl HEB.out HF.out (by omega) HBW.out HY1.out HF1.out HS1.out HB1.out HI1.out
end
end SM
end Go.Proofs.YtodjaabcjojlkaaDoor
