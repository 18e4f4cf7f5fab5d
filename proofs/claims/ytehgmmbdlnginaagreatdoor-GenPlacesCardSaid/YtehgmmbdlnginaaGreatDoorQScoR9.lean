/-
  Layer 9's document: the form at a place, whatever it weighs. Conditions: sizes.
-/
import Derived.Test.YtehgmmbdlnginaaGreatDoorQScoR8
namespace Go.Proofs.YtehgmmbdlnginaaGreatDoor
open Go.RowKit
set_option linter.unusedVariables false
namespace SR
open LX SX RW6 EX SC SM
open EW (Sl Zx Fr ptr num strs cell_far forms_slice form_info own_form sz_alloc beq_list strs_len ints_len NdR slice_ints1)
open RX (Nd)
section
variable {w0 w w1 w2:World} {E:List Nat} {q:Nat} {h:Dh} {rv rv1 V:Value} {X:Except Er Su} {B B':Nat} {C:Cx} {R:Rws} {st:Su}
theorem slices_slice:Tryz.prog.underlying 127=some (.slice 35):=by kernel_rfl
theorem strs_info:(Tryz.prog.info? 35).map (fun i=>(i.zero,i.size,i.bytes))=some (some (.slice none 0 0),1,24):=by kernel_rfl
theorem fn_form {N':List ByteArray} (k a n aa w:Int) (s:ByteArray) (R':Rws) (l:List Nat) (row:List Rf):onQ C (.mk ⟨k,a,n,aa,s,w,[]⟩ R' (l.map .form),N') row=thn (thn (.ok ((N',row):Su)) fun s=>runsS (sq C R') (l.map .form) s []) fun z=>.ok ((z.1.1,z.1.2++[({ (⟨k,a,n,aa,s,w,[]⟩:Rf) with l:=z.2 }:Rf)]),z.1.2.length):=rfl
theorem Env.more1 {Z:List Nat} {v:Value} {pvs:List Value} {A:Option Addr} {c pn m:Nat} {p:List ByteArray} {base:Nat} (hn:p.length=pn) (hm:R.length+1=m) (hv:w1.ownsRow base 35 1 v m (.slice A pn c::pvs)) (hz:∀ b,v.ownBlock=some b→b∉Z) (hl:pvs.length=R.length) (hp:Sl w1 Z (.slice A pn c) (strs p))
    (hR:∀ (k:Nat) (hk:k < R.length),∃ A c,pvs[k]? = some (.slice A R[k].length c)∧Sl w1 Z (.slice A R[k].length c) (strs R[k])):Env w1 Z v (p::R):=by
  subst hn hm;obtain ⟨A2,c2,e2,h0,_⟩:=MO.form hv;refine ⟨.slice A p.length c::pvs,?_,by simp [hl],fun k hk=>?_,fun A n c e h=>by rw [e2] at e;injection e with e3 e4 e5;rw [← e5];exact h0 (e3.trans h)⟩
  · exact Sl.own (n:=R.length+1) hv hz
  · cases k with
    | zero=>exact ⟨A,c,rfl,hp⟩
    | succ k=>exact hR k (by simpa using hk)
theorem sl_one {w:World} {Z:List Nat} {pvs:List Value} {R:Rws} (hl:pvs.length=R.length) (hR:∀ (k:Nat) (hk:k < R.length),∃ A c,pvs[k]? = some (.slice A R[k].length c)∧Sl w Z (.slice A R[k].length c) (strs R[k])):∀ u∈pvs,u.oneCell'=true:=fun u hu=>by
  obtain ⟨k,hk⟩:=List.getElem?_of_mem hu;have h1:=(List.getElem?_eq_some_iff.1 hk).1;obtain ⟨A,c,e,_⟩:=hR k (by omega);rw [e] at hk;injection hk with hk;subst hk;rfl
theorem Sl.src {w:World} {Z S:List Nat} {A:Option Addr} {n c:Nat} {vs:List Value} (h:Sl w Z (.slice A n c) vs) (hS:∀ b∈S,b∈Z):MM.Src w S A vs:=by
  obtain ⟨A',c',e,h1,h2,h3⟩:=h;injection e with e1 e2 e3;subst e1;intro hpos;obtain ⟨g,o,rfl,hz,hl,hc⟩:=h3 0 vs[0] (List.getElem?_eq_getElem hpos);refine ⟨⟨g,o,none⟩,rfl,fun hm=>hz (hS _ hm),hl,fun j u hu=>?_⟩
  obtain ⟨g',o',e',_,_,hc'⟩:=h3 j u hu;injection e' with e';injection e' with ea eb;subst ea eb;rw [show (⟨g,o,none⟩:Addr).add j=⟨g,o+j,none⟩ from MR.mk_add ..];exact hc'
set_option maxHeartbeats 8000000 in
set_option maxRecDepth 20000 in
theorem sform_step {M:Nat} (HF:FormC w0 q h C M) (L:Lr w0 h C):FormC w0 q h C (M+1):=by
  intro E w rv X B i R V hi hM hB hR s hE;cases X with
  | error e =>
    obtain ⟨nv,bad,er,hh,hb,h0,-⟩:=s.cells;subst hb;have c5:=hh.at (i:=5) rfl;have HS:=Lib.hid s;have hge:(0:Int)≤e.1:=h0;obtain ⟨b1,hb1⟩:∃ b1,e.1=b1:=⟨_,rfl⟩
    rw [hb1] at c5 hge;clear s hE HF L hh hM hR hB h0;unfold ptr num;go_enter Tryz.func32,Tryz.ntmps32
    go_wp2;go_ret
    exact ⟨0,rv,rfl,Fr.refl _ _ _,HS.out.mono (by omega),fun s k e=>by cases e⟩
  | ok st =>
    show Calls _ _ _ _ (OutS w0 w E q h rv (sq C R (.form i) st) (B+F C i))
    rw [sq_eq L.gd.fw];show Calls _ _ _ _ (OutS w0 w E q h rv (onQ C (evF C R st.1 (fmAt C.fs i)) st.2) (B+F C i))
    have hFe:=F_eq L.gd.fw i;have hin:∀ p∈(fmAt C.fs i).l,p < C.fs.length∧F C p≤M:=fun p hp=>⟨by have:=L.gd.fw.lt i p hp;omega,by have:=F_kid L.gd.fw hp;omega⟩
    have hform:=L.gd.form i hi;have hat:=L.gd.at_ i hi;have hnm:=L.gd.nm i hi;have hquo:=L.gd.quo i;have hfl:=L.fl i;obtain ⟨VA,VC,rfl⟩:=hE.form;obtain ⟨fb,fo,GA,gc,GL,gd,fcp,hlv,y0,y1,y2,y3,y4,y5,y6,y7,hSP,hSL⟩:=L.formAt (Z:=E++Zx q rv) s.low.1 (fun b hb=>(s.zlow b hb).2) hi;obtain ⟨nv,er0,hh⟩:=s.headc;have x1:=hh.at (i:=1) rfl;have x5:=hh.at (i:=5) rfl;rw [hlv] at x1;have hx0:(0:Int)≤(i:Int):=by omega
    have hx1:(i:Int) < (C.fs.length:Int):=by omega
    have hsumF:((fmAt C.fs i).l.map (F C)).sum=sumF C (fmAt C.fs i).l:=rfl;rw [hsumF] at hFe;generalize fmAt C.fs i=gg at *;obtain ⟨gk,ga,gn,gs,gp0,gl0⟩:=gg;have hkind:=hform.kind;have hp100:=hform.names.few;simp only at y0 y1 y2 y3 y4 y5 y6 y7 hSP hSL hFe hin hkind hat hnm hquo hfl hp100
    obtain ⟨pn,hpn⟩:∃ pn,gp0.length=pn:=⟨_,rfl⟩
    obtain ⟨m,hm⟩:∃ m,gl0.length=m:=⟨_,rfl⟩
    rw [hpn] at y5 hp100;rw [hm] at y7 hkind hfl;have R0:=MM.Row.new w 39 [.int .u8 gk,.int .i64 ga,.int .i64 gn,.int .i64 0,.string gs,.slice GA pn gc,.int .u64 0,.slice GL m gd];have F0:=(MM.Far.refl [] w).alloc (.cells #[.int .u8 gk,.int .i64 ga,.int .i64 gn,.int .i64 0,.string gs,.slice GA pn gc,.int .u64 0,.slice GL m gd] 39);have HF0:=Lib.hid F0;have HBX:=Lib.hid R0;have HBZ:Hid (w.heap.size∉Zx q rv):=Lib.hid (fun hm=>by have:=s.low.2.1 _ hm;omega);have HBB:=Lib.hid hB;have HFE:=Lib.hid hFe;unfold evF;simp only
    by_cases k1:gk=1
    · subst k1;rw [if_pos rfl];have HC:=Lib.hid (sconst_any (s.to F0) (by omega) ga (WP.intW gn));have HEX:Hid (onQ C (.mk (cst ga (WP.intW gn)) R [],st.1) st.2=thn (.ok st) fun s=>.ok ((s.1,s.2++[cst ga (WP.intW gn)]),s.2.length)):=Lib.hid rfl;rw [HEX.out];clear HF L s hE hSP hSL hin hB hM hR hh hlv hkind hat hnm hquo hfl hp100 hform R0 F0 hFe hsumF HEX
      (try unfold num at *);unfold ptr at *
      go_enter Tryz.func32,Tryz.ntmps32
      go_wp2_with (first
        | (go_at_call 62;(with_reducible refine (WW.rint_any _ _).mono ?_);rintro e w1 ⟨rfl,rfl⟩)
        | (go_at_call 63;(with_reducible refine HC.out.mono ?_);rintro e w1 hQ;have HQ:=Lib.hid (hQ.from (Fr.quiet HF0.out));obtain ⟨k,fv1,he,-⟩:=hQ;(replace he:e = .returned (.int .i64 ((k:Nat):Int)):=he);subst he))
      go_ret
      exact HQ.out.mono (by have:=HFE.out;omega)
    rw [if_neg k1];have k1b:(gk == 1)=false:=by simp [k1]
    by_cases k2:gk=2
    · subst k2;rw [if_pos rfl];have HC:=Lib.hid (sconst_any (s.to F0.drew) (by omega) ga (WP.boolW (decide (gn=1))));have HEX:Hid (onQ C (.mk (cst ga (WP.boolW (decide (gn=1)))) R [],st.1) st.2=thn (.ok st) fun s=>.ok ((s.1,s.2++[cst ga (WP.boolW (decide (gn=1)))]),s.2.length)):=Lib.hid rfl;have HDN:Hid (∀ x:Int,(x == 1)=decide (x=1)):=Lib.hid (fun x=>by by_cases e:x=1 <;> simp [e]);rw [HEX.out];clear HF L s hE hSP hSL hin hB hM hR hh hlv hkind hat hnm hquo hfl hp100 hform R0 F0 hFe hsumF HEX
      (try unfold num at *);unfold ptr at *
      go_enter Tryz.func32,Tryz.ntmps32
      go_wp2;generalize w.alloc (.cells #[.int .u8 2,.int .i64 ga,.int .i64 gn,.int .i64 0,.string gs,.slice GA pn gc,.int .u64 0,.slice GL m gd] 39)=W at *;have ru1:=HBX.out.at (i:=1) rfl;have ru2:=HBX.out.at (i:=2) rfl
      go_region_held3 (fun w'=>w'.cell? ⟨w.heap.size,1,none⟩=some (.int .i64 ga)∧w'.cell? ⟨w.heap.size,2,none⟩=some (.int .i64 gn)) (first | (with_reducible assumption) | go_keep) (first
        | (go_at_call 64;rw [HDN.out];(with_reducible refine (WW.rbool_any _ _).mono ?_);rintro e w7 ⟨rfl,rfl⟩;have hk:W.drew.cell? ⟨w.heap.size,1,none⟩=some (.int .i64 ga)∧W.drew.cell? ⟨w.heap.size,2,none⟩=some (.int .i64 gn):=⟨HBX.out.drew.at (i:=1) rfl,HBX.out.drew.at (i:=2) rfl⟩)
        | (go_at_call 63;(with_reducible refine HC.out.mono ?_);rintro e w8 hQ;have HQ:=Lib.hid (hQ.from (Fr.quiet HF0.out.drew));obtain ⟨k,fv1,he,hF8,-⟩:=hQ;(replace he:e = .returned (.int .i64 ((k:Nat):Int)):=he);subst he;have HB8:=Lib.hid (HBX.out.drew.far hF8.far HBZ.out);have hk:w8.cell? ⟨w.heap.size,1,none⟩=some (.int .i64 ga)∧w8.cell? ⟨w.heap.size,2,none⟩=some (.int .i64 gn):=⟨HB8.out.at (i:=1) rfl,HB8.out.at (i:=2) rfl⟩;clear hF8))
      go_wp2;go_ret
      exact HQ.out.mono (by have:=HFE.out;omega)
    rw [if_neg k2];have k2b:(gk == 2)=false:=by simp [k2]
    by_cases k3:gk=3
    · subst k3;rw [if_pos rfl];rw [if_pos rfl] at HFE;obtain ⟨hq0,hq1⟩:=hquo rfl;obtain ⟨d,hd⟩:∃ d:Nat,gn=d:=⟨gn.toNat,by omega⟩
      subst hd;simp only [Int.toNat_natCast] at HFE ⊢
      have hTP:=T_pos C.ns d;have HC:=Lib.hid ((quo_all L (2*T C.ns d - 1)).2 E _ rv st B ga R d (by omega) (Nat.le_refl _) (by have:=HFE.out;omega) (s.to F0));have HEX:Hid (onQ C (quo C.ns R st.1 ga d) st.2=sq C R (.qd ga d) st):=Lib.hid (sq_eq L.gd.fw R (.qd ga d) st).symm;rw [HEX.out];clear HF L s hE hSP hSL hin hB hM hR hh hlv hkind hat hnm hquo hfl hp100 hform R0 F0 hFe hsumF HEX hq0 hq1
      (try unfold num at *);unfold ptr at *
      go_enter Tryz.func32,Tryz.ntmps32
      go_wp2_with (first
        | (go_at_call 65;(with_reducible refine HC.out.mono ?_);rintro e w1 hQ;have HQ:=Lib.hid (hQ.from (Fr.quiet HF0.out));obtain ⟨k,fv1,he,-⟩:=hQ;(replace he:e = .returned (.int .i64 ((k:Nat):Int)):=he);subst he))
      go_ret
      exact HQ.out.mono (by have:=HFE.out;omega)
    rw [if_neg k3];rw [if_neg k3] at HFE;have k3b:(gk == 3)=false:=by simp [k3]
    by_cases k4:gk=4
    · subst k4;rw [if_pos rfl];have HC:=Lib.hid (sname_any L (s.to F0) (hE.far F0 (by simp)) (by omega) ⟨4,ga,gn,gs,gp0,gl0⟩ (PA:=GA) (LA:=GL) (pc:=gc) (lc:=gd) hat);simp only [hpn,hm] at HC
      clear HF L s hE hSP hSL hin hB hM hR hh hlv hkind hat hnm hquo hfl hp100 hform R0 F0 hFe hsumF hm hpn;have z0:=HBX.out.at (i:=0) rfl;have z1:=HBX.out.at (i:=1) rfl;have z2:=HBX.out.at (i:=2) rfl;have z3:=HBX.out.at (i:=3) rfl;have z4:=HBX.out.at (i:=4) rfl;have z5:=HBX.out.at (i:=5) rfl;have z6:=HBX.out.at (i:=6) rfl;have z7:=HBX.out.at (i:=7) rfl
      (try unfold num at *);unfold ptr at *
      go_enter Tryz.func32,Tryz.ntmps32
      go_wp2_with (first
        | (go_at_call 66;(with_reducible refine HC.out.mono ?_);rintro e w1 hQ;have HQ:=Lib.hid (hQ.from (Fr.quiet HF0.out));obtain ⟨k,fv1,he,-⟩:=hQ;(replace he:e = .returned (.int .i64 ((k:Nat):Int)):=he);subst he))
      go_ret
      exact HQ.out.mono (by have:=HFE.out;omega)
    rw [if_neg k4];have k4b:(gk == 4)=false:=by simp [k4]
    by_cases k6:gk=6
    · subst k6;rw [if_pos rfl];have hm1:m=1:=by rcases hkind with ⟨h,_⟩ | ⟨h,_⟩ | ⟨_,h⟩ | ⟨h,_⟩ | ⟨h,_⟩ <;> first | exact h | omega
      subst hm1;obtain ⟨p,rfl⟩:=one_of hm;obtain ⟨g,o,c1,e,cc,hc1,hc2,hlt,hgz,-⟩:=Sl.cons (u:=num p) (vs:=[]) hSL;injection e with e1 e2 e3;subst e1 e3;have hs1:=fun W=>slice_one g o 1 gd hc1 W
      obtain ⟨pvs,hp1,hp2,hp3,hp4⟩:=hE;have HP4:=Lib.hid (hp4 _ _ _ rfl);have HSLP:=Lib.hid hp1;have hone:=sl_one hp2 hp3;have HP3:=Lib.hid hp3;have HSP:=Lib.hid hSP;have HST:=Lib.hid (fun (w':World) (f:MM.Far [] w w')=>s.to f);have HZL:=Lib.hid s.zlow;have HSL:=Lib.hid hSL;have hsum1:sumF C [p]=F C p:=by simp [sumF]
      rw [hsum1] at HFE;have HALLF:=Lib.hid (fun (w':World) (f:MM.Far [] w w') (v:Value) (hEn:Env w' (E++Zx q rv) v (gp0::R))=>sall_any HF (s.to f) hEn (l:=[p]) (m:=1) (A:=some ⟨g,o,none⟩) (lc:=gd) (hSL.far f (by simp)) rfl (by omega) hin (by rw [hsum1];have:=HFE.out;omega) (by rw [hsum1,List.length_cons];have:=HFE.out;omega));rw [hpn] at HSP;have HPN:=Lib.hid hpn;have HP2:=Lib.hid hp2;have HR:=Lib.hid hR;have HW0:Hid (∀ b∈E++Zx q rv,b < w.heap.size):=Lib.hid (fun b hb=>(s.zlow b hb).1);rw [fn_form];rw [hpn];have HS1:=Lib.hid hsum1;clear HF L s hSP hSL hin hB hM hR hh hlv hkind hat hnm hquo hfl hp100 hform R0 F0 hFe hsumF hp1 hp2 hp3 hp4 hpn hm e2 hc2 hgz hsum1;obtain ⟨rl,hrl⟩:∃ rl,R.length=rl:=⟨_,rfl⟩
      rw [hrl] at HSLP HP2 HR ⊢;have HRL:Hid (R.length=rl):=Lib.hid hrl;clear hrl
      (try unfold num at *);unfold ptr at *
      go_enter Tryz.func32,Tryz.ntmps32
      go_upto_region 15 with fail
      generalize w.alloc (.cells #[.int .u8 6,.int .i64 ga,.int .i64 gn,.int .i64 0,.string gs,.slice GA pn gc,.int .u64 0,.slice (some ⟨g,o,none⟩) 1 gd] 39)=W at *;have z5:=HBX.out.at (i:=5) rfl
      go_wp2_with (first
        | (at_builtin
           refine MO.wpList_append _ ?_ (.tmp 66) (.tmp 67) 127 ?_ w.heap.size 35 (.slice none 0 0) 1 24 slices_slice strs_info rfl (by omega) _ 1 [.slice GA pn gc] ?_ (MO.of_row (MM.Row.new W 35 [.slice GA pn gc]) (by have:=HF0.out.size;omega) rfl (by unfold maxLen;omega)) VA rl VC pvs ?_ (by have:=HP2.out;omega) ?_ [] ?_ hone (by unfold maxLen;have:=HR.out;omega) (by have:=HR.out;omega) (by have:=HF0.out.size;rw [sz_alloc];omega) ?_
           · rfl
           · rfl
           · rfl
           · rfl
           · intro e;refine ⟨HP4.out e,?_⟩;have h1:=HP4.out e;obtain ⟨_,_,e5,h5,_⟩:=HSLP.out;injection e5 with e6 e7 e8;omega
           · exact (Sl.src HSLP.out (by simp)).far (HF0.out.alloc _) (by simp)
           intro v1 w2 o1 hg1 hl1))
      have FW:MM.Far [] W w2:=((MM.Far.refl [] W).alloc _).trans (MM.Far.of_grown (S:=[W.heap.size]) hg1 (fun b hb _=>by simpa [Value.ownBlock,eq_comm] using hb)) (fun b hb hl=>by simp at hb;omega);have F2:=HF0.out.trans FW (by simp);have hEn:Env w2 (E++Zx q rv) v1 (gp0::R):=Env.more1 (pvs:=pvs) HPN.out (by rw [HRL.out]) (by rw [Nat.add_comm];exact o1) (fun b hb hm=>by have h1:=(MM.own_lt o1 b hb).2;have h2:=HW0.out b hm;omega) (by rw [HRL.out];exact HP2.out) (HSP.out.far F2 (by simp)) (fun k hk=>by
        obtain ⟨A5,c5,e5,h5⟩:=HP3.out k hk;exact ⟨A5,c5,e5,h5.far F2 (by simp)⟩)
      have HALL:=Lib.hid (HALLF.out _ F2.drew v1 (hEn.far (MM.Far.refl [] w2).drew (by simp)));have HB3:=Lib.hid (HBX.out.far FW (by simp));have u1:=HB3.out.at (i:=1) rfl;have u5:=HB3.out.at (i:=5) rfl;have u7:=HB3.out.at (i:=7) rfl;have HF3:=Lib.hid F2;unfold ptr at HALL;clear o1 hg1 hl1 FW F2 hEn HALLF HP3 HSP HPN HP2 HSLP HW0 HSL;go_wp2;have ru1:=HB3.out.at (i:=1) rfl;have ru5:=HB3.out.at (i:=5) rfl;have ru7:=HB3.out.at (i:=7) rfl
      go_region_held3 (fun w'=>w'.cell? ⟨w.heap.size,1,none⟩=some (.int .i64 ga)∧w'.cell? ⟨w.heap.size,5,none⟩=some (.slice GA pn gc)∧w'.cell? ⟨w.heap.size,7,none⟩=some (.slice (some ⟨g,o,none⟩) 1 gd)) (first | (with_reducible assumption) | go_keep) (first
      | (go_at_call 68;(with_reducible refine HALL.out.mono ?_);rintro e w7 ⟨A7,c7,ks,rv7,rfl,hSl7,hS7,hF7,hY7⟩;have HB7:=Lib.hid (HB3.out.drew.far hF7.far HBZ.out);have HBZ7:=Lib.hid (box_off hF7 HBZ.out HB3.out.drew.lt);have hk:w7.cell? ⟨w.heap.size,1,none⟩=some (.int .i64 ga)∧w7.cell? ⟨w.heap.size,5,none⟩=some (.slice GA pn gc)∧w7.cell? ⟨w.heap.size,7,none⟩=some (.slice (some ⟨g,o,none⟩) 1 gd):=⟨HB7.out.at (i:=1) rfl,HB7.out.at (i:=5) rfl,HB7.out.at (i:=7) rfl⟩;have HP:=Lib.hid (sput_all hS7 (by have:=HBB.out;have:=HFE.out;have:=HS1.out;omega) (⟨6,ga,(pn:Nat),0,emp,0,[]⟩:Rf) hSl7 hY7);unfold ptr at HP;(try unfold LX.emp at HP);simp only at HP;have HF7:=Lib.hid ((Fr.quiet HF3.out.drew).trans hF7);obtain ⟨kn,hkn⟩:∃ kn,ks.length=kn:=⟨_,rfl⟩;rw [hkn] at HP ⊢;clear hS7 hF7 hSl7 hY7 hkn)
      | (go_at_call 67;(with_reducible refine HP.out.mono ?_);rintro e w8 hQ;have HQ:=Lib.hid (hQ.from HF7.out);obtain ⟨k,fv1,he,hF8,-⟩:=hQ;(replace he:e = .returned (.int .i64 ((k:Nat):Int)):=he);subst he;have HB8:=Lib.hid (HB7.out.far hF8.far HBZ7.out);have hk:w8.cell? ⟨w.heap.size,1,none⟩=some (.int .i64 ga)∧w8.cell? ⟨w.heap.size,5,none⟩=some (.slice GA pn gc)∧w8.cell? ⟨w.heap.size,7,none⟩=some (.slice (some ⟨g,o,none⟩) 1 gd):=⟨HB8.out.at (i:=1) rfl,HB8.out.at (i:=5) rfl,HB8.out.at (i:=7) rfl⟩;clear hF8))
      go_wp2;go_ret
      exact HQ.out.mono (by have:=HFE.out;have:=HS1.out;omega)
    rw [if_neg k6];have k6b:(gk == 6)=false:=by simp [k6]
    by_cases k7:gk=7
    · subst k7;rw [if_pos rfl];have hm1:m=1:=by rcases hkind with ⟨h,_⟩ | ⟨h,_⟩ | ⟨_,h⟩ | ⟨h,_⟩ | ⟨h,_⟩ <;> first | exact h | omega
      have HC:=Lib.hid (sset_any HF L (s.to F0) (hE.far F0 (by simp)) ⟨7,ga,gn,gs,gp0,gl0⟩ (PA:=GA) (LA:=GL) (pc:=gc) (lc:=gd) hat (by simp only;omega) hin (by simp only;have:=HFE.out;omega) (by simp only;have:=HFE.out;omega) (hSL.far F0 (by simp)));simp only [hpn,hm] at HC
      clear HF L s hE hSP hSL hin hB hM hR hh hlv hkind hat hnm hquo hfl hp100 hform R0 F0 hFe hsumF hm hpn hm1;have z0:=HBX.out.at (i:=0) rfl;have z1:=HBX.out.at (i:=1) rfl;have z2:=HBX.out.at (i:=2) rfl;have z3:=HBX.out.at (i:=3) rfl;have z4:=HBX.out.at (i:=4) rfl;have z5:=HBX.out.at (i:=5) rfl;have z6:=HBX.out.at (i:=6) rfl;have z7:=HBX.out.at (i:=7) rfl
      (try unfold num at *);unfold ptr at *
      go_enter Tryz.func32,Tryz.ntmps32
      go_wp2_with (first
        | (go_at_call 69;(with_reducible refine HC.out.mono ?_);rintro e w1 hQ;have HQ:=Lib.hid (hQ.from (Fr.quiet HF0.out));obtain ⟨k,fv1,he,-⟩:=hQ;(replace he:e = .returned (.int .i64 ((k:Nat):Int)):=he);subst he))
      go_ret
      exact HQ.out.mono (by have:=HFE.out;omega)
    rw [if_neg k7];have k7b:(gk == 7)=false:=by simp [k7]
    by_cases k9:gk=9
    · subst k9;rw [if_pos rfl];have hm1:m=1:=by rcases hkind with ⟨h,_⟩ | ⟨h,_⟩ | ⟨_,h⟩ | ⟨h,_⟩ | ⟨h,_⟩ <;> first | exact h | omega
      have HC:=Lib.hid (sdef_any HF L (s.to F0) (hE.far F0 (by simp)) ⟨9,ga,gn,gs,gp0,gl0⟩ (PA:=GA) (LA:=GL) (pc:=gc) (lc:=gd) hat (hnm.2.2.1 rfl) (by simp only;omega) hin (by simp only;have:=HFE.out;omega) (by simp only;have:=HFE.out;omega) (hSL.far F0 (by simp)));simp only [hpn,hm] at HC
      clear HF L s hE hSP hSL hin hB hM hR hh hlv hkind hat hnm hquo hfl hp100 hform R0 F0 hFe hsumF hm hpn hm1;have z0:=HBX.out.at (i:=0) rfl;have z1:=HBX.out.at (i:=1) rfl;have z2:=HBX.out.at (i:=2) rfl;have z3:=HBX.out.at (i:=3) rfl;have z4:=HBX.out.at (i:=4) rfl;have z5:=HBX.out.at (i:=5) rfl;have z6:=HBX.out.at (i:=6) rfl;have z7:=HBX.out.at (i:=7) rfl
      (try unfold num at *);unfold ptr at *
      go_enter Tryz.func32,Tryz.ntmps32
      go_wp2_with (first
        | (go_at_call 70;(with_reducible refine HC.out.mono ?_);rintro e w1 hQ;have HQ:=Lib.hid (hQ.from (Fr.quiet HF0.out));obtain ⟨k,fv1,he,-⟩:=hQ;(replace he:e = .returned (.int .i64 ((k:Nat):Int)):=he);subst he))
      go_ret
      exact HQ.out.mono (by have:=HFE.out;omega)
    rw [if_neg k9];have k9b:(gk == 9)=false:=by simp [k9]
    by_cases k10:gk=10
    · subst k10;rw [if_pos rfl];have hm1:1≤m:=by rcases hkind with ⟨h,_⟩ | ⟨h,_⟩ | ⟨h,_⟩ | ⟨h,_⟩ | ⟨_,h⟩ <;> first | exact h | omega
      obtain ⟨x,r,hxr⟩:∃ x r,gl0=x::r:=by
        cases gl0 with
        | nil=>simp at hm;omega
        | cons x r=>exact ⟨x,r,rfl⟩
      have HC:=Lib.hid (scall_any HF L (s.to F0) (hE.far F0 (by simp)) ⟨10,ga,gn,gs,gp0,gl0⟩ (PA:=GA) (LA:=GL) (pc:=gc) (lc:=gd) hat hxr hin (by simp only;omega) (by simp only;have:=HFE.out;omega) (by simp only;have:=HFE.out;omega) (hSL.far F0 (by simp)));simp only [hpn,hm] at HC
      clear HF L s hE hSP hSL hin hB hM hR hh hlv hkind hat hnm hquo hfl hp100 hform R0 F0 hFe hsumF hm hpn hm1 hxr;have z0:=HBX.out.at (i:=0) rfl;have z1:=HBX.out.at (i:=1) rfl;have z2:=HBX.out.at (i:=2) rfl;have z3:=HBX.out.at (i:=3) rfl;have z4:=HBX.out.at (i:=4) rfl;have z5:=HBX.out.at (i:=5) rfl;have z6:=HBX.out.at (i:=6) rfl;have z7:=HBX.out.at (i:=7) rfl
      (try unfold num at *);unfold ptr at *
      go_enter Tryz.func32,Tryz.ntmps32
      go_wp2_with (first
        | (go_at_call 71;(with_reducible refine HC.out.mono ?_);rintro e w1 hQ;have HQ:=Lib.hid (hQ.from (Fr.quiet HF0.out));obtain ⟨k,fv1,he,-⟩:=hQ;(replace he:e = .returned (.int .i64 ((k:Nat):Int)):=he);subst he))
      go_ret
      exact HQ.out.mono (by have:=HFE.out;omega)
    rw [if_neg k10];have k10b:(gk == 10)=false:=by simp [k10]
    rw [fn_form];have HALLF:=Lib.hid (sall_any HF (s.to F0.drew) (hE.far F0.drew (by simp)) (l:=gl0) (hSL.far F0.drew (by simp)) rfl (by omega) hin (by have:=HFE.out;omega) (by have:=HFE.out;omega));rw [hm] at HALLF;by_cases k5:gk=5
    · subst k5;have hm3:m=3:=by rcases hkind with ⟨h,_⟩ | ⟨_,h⟩ | ⟨h,_⟩ | ⟨h,_⟩ | ⟨h,_⟩ <;> first | exact h | omega
      subst hm3;obtain ⟨p,r3,hpr⟩:∃ p r,gl0=p::r:=by
        cases gl0 with
        | nil=>simp at hm
        | cons x r=>exact ⟨x,r,rfl⟩
      rw [hpr] at hSL hm;obtain ⟨g,o,c1,e,cc,hc1,hc2,hlt,hgz,-⟩:=Sl.cons (u:=num p) (vs:=ints r3) hSL;injection e with e1 e2 e3;subst e1 e3;rw [ints_len] at hc1;have hs3:=fun W=>slice_three g o 3 gd (by rw [List.length_cons] at hm;omega) W
      have HALL:=HALLF;clear HF L s hE hSP hSL hin hB hM hR hh hlv hkind hat hnm hquo hfl hp100 hform R0 F0 hFe hsumF hm hpn hpr e2 hc1 hc2 hgz HALLF
      (try unfold num at *);unfold ptr at *
      go_enter Tryz.func32,Tryz.ntmps32
      go_wp2;generalize w.alloc (.cells #[.int .u8 5,.int .i64 ga,.int .i64 gn,.int .i64 0,.string gs,.slice GA pn gc,.int .u64 0,.slice (some ⟨g,o,none⟩) 3 gd] 39)=W at *;have ru1:=HBX.out.at (i:=1) rfl;have ru7:=HBX.out.at (i:=7) rfl
      go_region_held3 (fun w'=>w'.cell? ⟨w.heap.size,1,none⟩=some (.int .i64 ga)∧w'.cell? ⟨w.heap.size,7,none⟩=some (.slice (some ⟨g,o,none⟩) 3 gd)) (first | (with_reducible assumption) | go_keep) (first
      | (go_at_call 68;(with_reducible refine HALL.out.mono ?_);rintro e w7 ⟨A7,c7,ks,rv7,rfl,hSl7,hS7,hF7,hY7⟩;have HB7:=Lib.hid (HBX.out.drew.far hF7.far HBZ.out);have HBZ7:=Lib.hid (box_off hF7 HBZ.out HBX.out.drew.lt);have hk:w7.cell? ⟨w.heap.size,1,none⟩=some (.int .i64 ga)∧w7.cell? ⟨w.heap.size,7,none⟩=some (.slice (some ⟨g,o,none⟩) 3 gd):=⟨HB7.out.at (i:=1) rfl,HB7.out.at (i:=7) rfl⟩;have HP:=Lib.hid (sput_all hS7 (by have:=HBB.out;have:=HFE.out;omega) (⟨5,ga,0,0,emp,0,[]⟩:Rf) hSl7 hY7);unfold ptr at HP;(try unfold LX.emp at HP);simp only at HP;have HF7:=Lib.hid ((Fr.quiet HF0.out.drew).trans hF7);obtain ⟨kn,hkn⟩:∃ kn,ks.length=kn:=⟨_,rfl⟩;rw [hkn] at HP ⊢;clear hS7 hF7 hSl7 hY7 hkn)
      | (go_at_call 67;(with_reducible refine HP.out.mono ?_);rintro e w8 hQ;have HQ:=Lib.hid (hQ.from HF7.out);obtain ⟨k,fv1,he,hF8,-⟩:=hQ;(replace he:e = .returned (.int .i64 ((k:Nat):Int)):=he);subst he;have HB8:=Lib.hid (HB7.out.far hF8.far HBZ7.out);have hk:w8.cell? ⟨w.heap.size,1,none⟩=some (.int .i64 ga)∧w8.cell? ⟨w.heap.size,7,none⟩=some (.slice (some ⟨g,o,none⟩) 3 gd):=⟨HB8.out.at (i:=1) rfl,HB8.out.at (i:=7) rfl⟩;clear hF8))
      go_wp2;go_ret
      exact HQ.out.mono (by have:=HFE.out;omega)
    · have k5b:(gk == 5)=false:=by simp [k5]
      have k8:gk=8:=by rcases hkind with ⟨h,_⟩ | ⟨h,_⟩ | ⟨h,_⟩ | ⟨h,_⟩ | ⟨h,_⟩ <;> first | exact h | omega
      subst k8;have HALL:=HALLF;clear HF L s hE hSP hSL hin hB hM hR hh hlv hkind hat hnm hquo hfl hp100 hform R0 F0 hFe hsumF hm hpn HALLF
      (try unfold num at *);unfold ptr at *
      go_enter Tryz.func32,Tryz.ntmps32
      go_wp2;generalize w.alloc (.cells #[.int .u8 8,.int .i64 ga,.int .i64 gn,.int .i64 0,.string gs,.slice GA pn gc,.int .u64 0,.slice GL m gd] 39)=W at *;have ru1:=HBX.out.at (i:=1) rfl;have ru7:=HBX.out.at (i:=7) rfl
      go_region_held3 (fun w'=>w'.cell? ⟨w.heap.size,1,none⟩=some (.int .i64 ga)∧w'.cell? ⟨w.heap.size,7,none⟩=some (.slice GL m gd)) (first | (with_reducible assumption) | go_keep) (first
      | (go_at_call 68;(with_reducible refine HALL.out.mono ?_);rintro e w7 ⟨A7,c7,ks,rv7,rfl,hSl7,hS7,hF7,hY7⟩;have HB7:=Lib.hid (HBX.out.drew.far hF7.far HBZ.out);have HBZ7:=Lib.hid (box_off hF7 HBZ.out HBX.out.drew.lt);have hk:w7.cell? ⟨w.heap.size,1,none⟩=some (.int .i64 ga)∧w7.cell? ⟨w.heap.size,7,none⟩=some (.slice GL m gd):=⟨HB7.out.at (i:=1) rfl,HB7.out.at (i:=7) rfl⟩;have HP:=Lib.hid (sput_all hS7 (by have:=HBB.out;have:=HFE.out;omega) (⟨8,ga,0,0,emp,0,[]⟩:Rf) hSl7 hY7);unfold ptr at HP;(try unfold LX.emp at HP);simp only at HP;have HF7:=Lib.hid ((Fr.quiet HF0.out.drew).trans hF7);obtain ⟨kn,hkn⟩:∃ kn,ks.length=kn:=⟨_,rfl⟩;rw [hkn] at HP ⊢;clear hS7 hF7 hSl7 hY7 hkn)
      | (go_at_call 67;(with_reducible refine HP.out.mono ?_);rintro e w8 hQ;have HQ:=Lib.hid (hQ.from HF7.out);obtain ⟨k,fv1,he,hF8,-⟩:=hQ;(replace he:e = .returned (.int .i64 ((k:Nat):Int)):=he);subst he;have HB8:=Lib.hid (HB7.out.far hF8.far HBZ7.out);have hk:w8.cell? ⟨w.heap.size,1,none⟩=some (.int .i64 ga)∧w8.cell? ⟨w.heap.size,7,none⟩=some (.slice GL m gd):=⟨HB8.out.at (i:=1) rfl,HB8.out.at (i:=7) rfl⟩;clear hF8))
      go_wp2;go_ret
      exact HQ.out.mono (by have:=HFE.out;omega)
theorem form_all (L:Lr w0 h C):∀ M,FormC w0 q h C M:=by
  intro M;induction M with
  | zero=>exact fun E w rv X B i R V hi hM=>by have:=F_pos C i;omega
  | succ M ih=>exact sform_step ih L
end
end SR
end Go.Proofs.YtehgmmbdlnginaaGreatDoor
