/-
  Several texts in one: ScoR5,ScoR6.
-/
import Derived.Test.YtehgmmbdlnginaaGreatDoorQExpR11
import Derived.Test.YtehgmmbdlnginaaGreatDoorQScoR4
namespace Go.Proofs.YtehgmmbdlnginaaGreatDoor
open Go.RowKit
set_option linter.unusedVariables false
namespace SR
open LX SX RW6 EX SC SM
open EW (Sl Zx Fr ptr num strs cell_far forms_slice form_info own_form sz_alloc beq_list strs_len ints_len NdR slice_ints1 far_cell)
open RX (Nd)
structure Lr (w0:World) (h:Dh) (C:Cx):Prop where
  gd:Gd C h.K
  dat:∃ A c,h.dv = .slice A C.ns.length c∧NdR w0 A C.ns
  frm:∃ A c,h.lv = .slice A C.fs.length c∧FmS w0 A C.fs
  few:∀ i,(ndAt C.ns i).l.length≤100000
  fl:∀ i,(fmAt C.fs i).l.length≤100000
  own:h.own=C.own
section
variable {w0 w w1 w2:World} {E:List Nat} {q:Nat} {h:Dh} {rv rv1:Value} {X:Except Er Su} {B B':Nat} {C:Cx}
theorem Sst.headc {st:Su} (s:Sst w0 w E q h rv (.ok st) B):∃ nv er,MM.Row w q 92 [h.dv,h.lv,h.ov,nv,rv,.int .i64 (-1),.int .i64 er]:=by
  obtain ⟨nv,bad,er,hr,hb⟩:=s.cells;have hb:bad = -1:=hb;subst hb;exact ⟨nv,er,hr⟩
theorem Lr.datum (L:Lr w0 h C) (f:MM.Far [] w0 w) {Z:List Nat} (hZ:∀ b∈Z,w0.heap.size≤b) {i:Nat} (hi:i < C.ns.length):∃ b o LA lc dc,h.dv = .slice (some ⟨b,o,none⟩) C.ns.length dc∧w.cell? ⟨b,o+i*5,none⟩=some (.int .u8 (ndAt C.ns i).kind) ∧
    w.cell? ⟨b,o+i*5+1,none⟩=some (.int .i64 (ndAt C.ns i).at_)∧w.cell? ⟨b,o+i*5+2,none⟩=some (.int .i64 (ndAt C.ns i).n)∧w.cell? ⟨b,o+i*5+3,none⟩=some (.string (ndAt C.ns i).s) ∧
    w.cell? ⟨b,o+i*5+4,none⟩=some (.slice LA (ndAt C.ns i).l.length lc)∧Sl w Z (.slice LA (ndAt C.ns i).l.length lc) (ints (ndAt C.ns i).l):=by
  rw [nd_in hi];obtain ⟨A,dc,e,hN⟩:=L.dat;obtain ⟨b,o,LA,lc,ea,hb,c0,c1,c2,c3,c4,k1,k2,hI⟩:=hN i hi;subst ea;have g (x:Nat):w.cell? ⟨b,x,none⟩=w0.cell? ⟨b,x,none⟩:=f.cell (p:=⟨b,x,none⟩) hb (by simp);refine ⟨b,o,LA,lc,dc,e,(g _).trans c0,(g _).trans c1,(g _).trans c2,(g _).trans c3,(g _).trans c4,?_⟩
  have hlen:(ints C.ns[i].l).length=C.ns[i].l.length:=by unfold ints;rw [List.length_map]
  refine ⟨LA,lc,by rw [hlen],by rw [hlen];exact k1,⟨k2,fun _ _ _ _ _ _ _ u hu=>by unfold ints at hu;obtain ⟨x,_,rfl⟩:=List.mem_map.1 hu;exact ⟨_,rfl⟩⟩,fun k u hu=>?_⟩
  have hk:k < C.ns[i].l.length:=by have:=(List.getElem?_eq_some_iff.1 hu).1;omega
  obtain ⟨b',o',e',hb',hc'⟩:=hI k hk;refine ⟨b',o',e',fun hm=>?_,Nat.lt_of_lt_of_le hb' f.size,?_⟩
  · have:=hZ b' hm;omega
  · rw [f.cell (p:=⟨b',o'+k,none⟩) hb' (by simp),hc'];unfold ints at hu;rw [List.getElem?_map,List.getElem?_eq_getElem hk] at hu;exact hu
theorem Lr.formAt (L:Lr w0 h C) (f:MM.Far [] w0 w) {Z:List Nat} (hZ:∀ b∈Z,w0.heap.size≤b) {i:Nat} (hi:i < C.fs.length):∃ b o PA pc LA lc fc,h.lv = .slice (some ⟨b,o,none⟩) C.fs.length fc∧w.cell? ⟨b,o+i*8,none⟩=some (.int .u8 (fmAt C.fs i).kind)∧w.cell? ⟨b,o+i*8+1,none⟩=some (.int .i64 (fmAt C.fs i).at_)∧w.cell? ⟨b,o+i*8+2,none⟩=some (.int .i64 (fmAt C.fs i).n) ∧
    w.cell? ⟨b,o+i*8+3,none⟩=some (.int .i64 0)∧w.cell? ⟨b,o+i*8+4,none⟩=some (.string (fmAt C.fs i).s)∧w.cell? ⟨b,o+i*8+5,none⟩=some (.slice PA (fmAt C.fs i).p.length pc)∧w.cell? ⟨b,o+i*8+6,none⟩=some (.int .u64 0) ∧
    w.cell? ⟨b,o+i*8+7,none⟩=some (.slice LA (fmAt C.fs i).l.length lc)∧Sl w Z (.slice PA (fmAt C.fs i).p.length pc) (strs (fmAt C.fs i).p)∧Sl w Z (.slice LA (fmAt C.fs i).l.length lc) (ints (fmAt C.fs i).l):=by
  rw [fm_in hi];obtain ⟨A,fc,e,hF⟩:=L.frm;obtain ⟨b,o,PA,pc,LA,lc,ea,hb,c0,c1,c2,c3,c4,c5,c6,c7,hP,hI⟩:=hF i hi;subst ea;have g (x:Nat):w.cell? ⟨b,x,none⟩=w0.cell? ⟨b,x,none⟩:=f.cell (p:=⟨b,x,none⟩) hb (by simp);exact ⟨b,o,PA,pc,LA,lc,fc,e,(g _).trans c0,(g _).trans c1,(g _).trans c2,(g _).trans c3,(g _).trans c4,(g _).trans c5,(g _).trans c6,(g _).trans c7,(hP.more (fun b hb=>.inr (hZ b hb))).far f (fun b hb=>by cases hb) ,(hI.more (fun b hb=>.inr (hZ b hb))).far f (fun b hb=>by cases hb)⟩
theorem sputs_any (s:Sst w0 w E q h rv X B) (hB:B≤1000000000) (f:Rf) (ks:List Nat) (hk:ks.length≤10) (hf:f.l=ks) {bk m:Nat} (hb:bk=w.heap.size) (hm:ks.length=m) {xs:Array Value} (hx:(ints ks).toArray=xs) :
    Calls Tryz.prog 67 #[ptr q,.agg #[.int .u8 f.kind,.int .i64 f.at_,.int .i64 f.n,.int .i64 f.a,.string f.s,.slice none 0 0,.int .u64 f.w,.slice (some ⟨bk,0,none⟩) m m]] (w.alloc (.cells xs 3)) (OutS w0 w E q h rv (thn X fun s=>.ok ((s.1,s.2++[f]),s.2.length)) (B+1)):=by
  subst hb hm hx;have hF:=(MM.Far.refl [] w).alloc (.cells (ints ks).toArray 3);have hlen:(ints ks).length=ks.length:=by unfold ints;rw [List.length_map]
  have hs:Sl (w.alloc (.cells (ints ks).toArray 3)) (E++Zx q rv) (.slice (some ⟨w.heap.size,0,none⟩) ks.length ks.length) (ints f.l):=by
    rw [hf];have:=Sl.row (Z:=E++Zx q rv) (MM.Row.new w 3 (ints ks)) (fun hm=>by have:=(s.zlow _ hm).1;omega) (by rw [hlen];unfold maxLen;omega);rw [hlen] at this;exact this
  exact (sput_any (s.to hF) hB f hs).mono fun e w1 hQ=>hQ.from (Fr.quiet hF)
def wq (C:Cx) (l:List Nat):Nat:=1+(l.map fun i=>2*T C.ns i).sum
theorem wq_cons (C:Cx) (i:Nat) (l:List Nat):wq C (i::l)=2*T C.ns i+wq C l:=by unfold wq;rw [List.map_cons,List.sum_cons];omega
theorem wq_kids (L:Lr w0 h C) (i:Nat):wq C (ndAt C.ns i).l=2*T C.ns i - 1:=by
  unfold wq;rw [sum_two,T_kids L.gd.fw.ok i];omega
def ListC (w0:World) (q:Nat) (h:Dh) (C:Cx) (M:Nat):Prop:=∀ (E:List Nat) (w:World) (rv:Value) (st:Su) (B:Nat) (a:Int) (R:Rws) (A:Option Addr) (m lc:Nat) (l:List Nat),wq C l≤M→(∀ i∈l,i < C.ns.length)→l.length=m→m≤100000→B+wq C l≤1000000000→Sst w0 w E q h rv (.ok st) B→Sl w (E++Zx q rv) (.slice A m lc) (ints l) →
  Calls Tryz.prog 109 #[ptr q,num a,.slice A m lc] w (OutS w0 w E q h rv (sq C R (.ql a l) st) (B+wq C l))
def QuoC (w0:World) (q:Nat) (h:Dh) (C:Cx) (M:Nat):Prop:=∀ (E:List Nat) (w:World) (rv:Value) (st:Su) (B:Nat) (a:Int) (R:Rws) (i:Nat),i < C.ns.length→2*T C.ns i - 1≤M→B+(2*T C.ns i - 1)≤1000000000→Sst w0 w E q h rv (.ok st) B →
  Calls Tryz.prog 65 #[ptr q,num a,num i] w (OutS w0 w E q h rv (sq C R (.qd a i) st) (B+(2*T C.ns i - 1)))
set_option maxHeartbeats 4000000 in
set_option maxRecDepth 20000 in
theorem quo_step {M:Nat} (HL:ListC w0 q h C M) (L:Lr w0 h C):QuoC w0 q h C M:=by
  intro E w rv st B a R i hi hM hB s;obtain ⟨nv,er,hh⟩:=s.headc;obtain ⟨b,o,LA,lc,dc,hdv,d0,d1,d2,d3,d4,hSl⟩:=L.datum s.low.1 (fun b hb=>(s.zlow b hb).2) hi;have c0:=hh.at (i:=0) rfl;rw [hdv] at c0;have hi0:(0:Int)≤(i:Int):=by omega
  have hi1:(i:Int) < (C.ns.length:Int):=by omega
  have hTP:=T_pos C.ns i;have hE:sq C R (.qd a i) st=onQ C (quo C.ns R st.1 a i) st.2:=sq_eq L.gd.fw R _ st;have hfew:=L.few i;rw [hE];have F0:=(MM.Far.refl [] w).alloc (.cells #[.int .u8 (ndAt C.ns i).kind,.int .i64 (ndAt C.ns i).at_,.int .i64 (ndAt C.ns i).n,.string (ndAt C.ns i).s,.slice LA (ndAt C.ns i).l.length lc] 122);have R0:=MM.Row.new w 122 [.int .u8 (ndAt C.ns i).kind,.int .i64 (ndAt C.ns i).at_,.int .i64 (ndAt C.ns i).n,.string (ndAt C.ns i).s,.slice LA (ndAt C.ns i).l.length lc];have HF0:=Lib.hid F0;have HBX:=Lib.hid R0;have HBB:=Lib.hid hB;have HTP:=Lib.hid hTP;have HST:=Lib.hid (fun (w':World) (f:MM.Far [] w w')=>s.to f);have HBZ:Hid (w.heap.size∉Zx q rv):=Lib.hid (fun hm=>by have:=s.low.2.1 _ hm;omega);have hquo:quo C.ns R st.1 a i=if (ndAt C.ns i).kind=1 then (.mk (cst a (WP.intW (ndAt C.ns i).n)) R [],st.1) else if (ndAt C.ns i).kind=2 then (.mk (cst a (WP.boolW (decide ((ndAt C.ns i).n=1)))) R [],st.1)
    else if (ndAt C.ns i).kind=3 then (.mk (cst a (WP.ofW 3 (NP.putI st.1 (ndAt C.ns i).s))) R [],NP.putL st.1 (ndAt C.ns i).s) else (quoL R a (ndAt C.ns i).l,st.1):=rfl
  rw [hquo];by_cases k1:(ndAt C.ns i).kind=1
  · rw [if_pos k1];have HC:=Lib.hid (sconst_any (s.to F0) (by omega) a (WP.intW (ndAt C.ns i).n));have HEX:Hid (onQ C (.mk (cst a (WP.intW (ndAt C.ns i).n)) R [],st.1) st.2=thn (.ok st) fun s=>.ok ((s.1,s.2++[cst a (WP.intW (ndAt C.ns i).n)]),s.2.length)):=Lib.hid rfl;rw [HEX.out];clear HL L s hSl hE hquo F0 R0 HEX hM hB hh hdv HST;generalize (ndAt C.ns i).at_=ad at *;generalize (ndAt C.ns i).n=nd at *;generalize (ndAt C.ns i).s=sd at *;generalize (ndAt C.ns i).l.length=m at *;generalize (ndAt C.ns i).kind=kd at *;generalize C.ns.length=nl at *;subst k1;unfold ptr num at *;go_enter Tryz.func65,Tryz.ntmps65
    go_wp2_with (first
      | (go_at_call 62;(with_reducible refine (WW.rint_any _ _).mono ?_);rintro e w1 ⟨rfl,rfl⟩)
      | (go_at_call 63;(with_reducible refine HC.out.mono ?_);rintro e w1 hQ;have HQ:=Lib.hid (hQ.from (Fr.quiet HF0.out));obtain ⟨k,fv1,he,-⟩:=hQ;(replace he:e = .returned (.int .i64 ((k:Nat):Int)):=he);subst he))
    go_ret
    exact HQ.out.mono (by have:=HTP.out;omega)
  rw [if_neg k1];have k1b:((ndAt C.ns i).kind == 1)=false:=by simp [k1]
  by_cases k2:(ndAt C.ns i).kind=2
  · rw [if_pos k2];have HC:=Lib.hid (sconst_any (s.to F0) (by omega) a (WP.boolW (decide ((ndAt C.ns i).n=1))));have HEX:Hid (onQ C (.mk (cst a (WP.boolW (decide ((ndAt C.ns i).n=1)))) R [],st.1) st.2=thn (.ok st) fun s=>.ok ((s.1,s.2++[cst a (WP.boolW (decide ((ndAt C.ns i).n=1)))]),s.2.length)):=Lib.hid rfl;rw [HEX.out];have HDN:Hid (∀ x:Int,(x == 1)=decide (x=1)):=Lib.hid (fun x=>by by_cases e:x=1 <;> simp [e]);clear HL L s hSl hE hquo F0 R0 HEX hM hB hh hdv HST;generalize (ndAt C.ns i).at_=ad at *;generalize (ndAt C.ns i).n=nd at *;generalize (ndAt C.ns i).s=sd at *;generalize (ndAt C.ns i).l.length=m at *;generalize (ndAt C.ns i).kind=kd at *;generalize C.ns.length=nl at *;subst k2;unfold ptr num at *;go_enter Tryz.func65,Tryz.ntmps65
    go_wp2_with (first
      | (go_at_call 64;rw [HDN.out];(with_reducible refine (WW.rbool_any _ _).mono ?_);rintro e w1 ⟨rfl,rfl⟩)
      | (go_at_call 63;(with_reducible refine HC.out.mono ?_);rintro e w1 hQ;have HQ:=Lib.hid (hQ.from (Fr.quiet HF0.out));obtain ⟨k,fv1,he,-⟩:=hQ;(replace he:e = .returned (.int .i64 ((k:Nat):Int)):=he);subst he))
    go_ret
    exact HQ.out.mono (by have:=HTP.out;omega)
  rw [if_neg k2];have k2b:((ndAt C.ns i).kind == 2)=false:=by simp [k2]
  by_cases k3:(ndAt C.ns i).kind=3
  · rw [if_pos k3];have hPK:=L.gd.datN i k3;have HC:=Lib.hid (snumber_any (s.to F0) L.gd.few hPK);have HEX:Hid (onQ C (.mk (cst a (WP.ofW 3 (NP.putI st.1 (ndAt C.ns i).s))) R [],NP.putL st.1 (ndAt C.ns i).s) st.2=thn (.ok (NP.putL st.1 (ndAt C.ns i).s,st.2)) fun s:Su=>.ok ((s.1,s.2++[cst a (WP.ofW 3 (NP.putI st.1 (ndAt C.ns i).s))]),s.2.length)):=Lib.hid rfl;rw [HEX.out];clear HL L s hSl hE hquo F0 R0 HEX hM hB hh hdv HST hPK;generalize (ndAt C.ns i).at_=ad at *;generalize (ndAt C.ns i).n=nd at *;generalize (ndAt C.ns i).s=sd at *;generalize (ndAt C.ns i).l.length=m at *;generalize (ndAt C.ns i).kind=kd at *;generalize C.ns.length=nl at *;generalize NP.putL st.1 sd=N1 at *;generalize NP.putI st.1 sd=n1 at *;subst k3;unfold ptr num at *;go_enter Tryz.func65,Tryz.ntmps65
    go_wp2_with (first
      | (go_at_call 108;(with_reducible refine HC.out.mono ?_);rintro e w1 ⟨rfl,hS1,hF1⟩;have HS1:=Lib.hid (fun a k=>sconst_any hS1 (by have:=HBB.out;omega) a k);have HF1:=Lib.hid hF1;unfold ptr num at HS1;clear hS1 hF1)
      | (go_at_call 107;(with_reducible refine (WW.rof_any _ _ _).mono ?_);rintro e w2 ⟨rfl,rfl⟩)
      | (go_at_call 63;(with_reducible refine (HS1.out _ _).mono ?_);rintro e w3 hQ;have HQ:=Lib.hid (hQ.from ((Fr.quiet HF0.out).trans HF1.out));obtain ⟨k,fv1,he,-⟩:=hQ;(replace he:e = .returned (.int .i64 ((k:Nat):Int)):=he);subst he))
    go_ret
    exact HQ.out.mono (by have:=HTP.out;omega)
  rw [if_neg k3];have k3b:((ndAt C.ns i).kind == 3)=false:=by simp [k3]
  have hwk:=wq_kids L i;have HEX:Hid (onQ C (quoL R a (ndAt C.ns i).l,st.1) st.2=sq C R (.ql a (ndAt C.ns i).l) st):=Lib.hid (sq_eq L.gd.fw R (.ql a (ndAt C.ns i).l) st).symm;rw [HEX.out];have HC:=Lib.hid (HL E _ rv st B a R LA (ndAt C.ns i).l.length lc (ndAt C.ns i).l (by omega) (fun p hp=>(EX.kid L.gd.fw.ok hp).2) rfl hfew (by omega) (s.to F0) (hSl.far F0 (by simp)));rw [hwk] at HC;clear HL L s hSl hE hquo F0 R0 HEX hM hB hh hdv HST k1 k2 k3 hwk;generalize (ndAt C.ns i).at_=ad at *;generalize (ndAt C.ns i).n=nd at *;generalize (ndAt C.ns i).s=sd at *;generalize (ndAt C.ns i).l=ld at *;generalize ld.length=m at *;generalize (ndAt C.ns i).kind=kd at *;generalize C.ns.length=nl at *;unfold ptr num at *;go_enter Tryz.func65,Tryz.ntmps65
  go_wp2_with (first
    | (go_at_call 109;(with_reducible refine HC.out.mono ?_);rintro e w1 hQ;have HQ:=Lib.hid (hQ.from (Fr.quiet HF0.out));obtain ⟨k,fv1,he,-⟩:=hQ;(replace he:e = .returned (.int .i64 ((k:Nat):Int)):=he);subst he))
  go_ret
  exact HQ.out
theorem sq_nil (hw:Fw C) (R:Rws) (a:Int) (st:Su):sq C R (.ql a []) st = .ok ((st.1,st.2++[cst a 2]),st.2.length):=by
  rw [sq_eq hw];rfl
theorem sq_pair (hw:Fw C) (R:Rws) (a:Int) (i:Nat) (l:List Nat) (st s1 s2:Su) (k1 k2:Nat) (h1:sq C R (.qd a i) st = .ok (s1,k1)) (h2:sq C R (.ql a l) s1 = .ok (s2,k2)) :
    sq C R (.ql a (i::l)) st = .ok ((s2.1,s2.2++[(⟨12,a,12,0,emp,0,[k1,k2]⟩:Rf)]),s2.2.length):=by
  rw [sq_eq hw];show onQ C (quoL R a (i::l),st.1) st.2=_
  simp only [quoL,onQ,runsS_cons]
  rw [show ((st.1,st.2):Su)=st from rfl,h1];simp only [thn]
  rw [h2];rfl
set_option maxHeartbeats 4000000 in
set_option maxRecDepth 20000 in
theorem list_step {M:Nat} (HL:ListC w0 q h C M) (HQ:QuoC w0 q h C M) (L:Lr w0 h C):ListC w0 q h C (M+1):=by
  intro E w rv st B a R A m lc l hM hin hm hm5 hB s hl;cases l with
  | nil =>
    have hm0:m=0:=by rw [← hm];rfl
    subst hm0;have HC:=Lib.hid (sconst_any s (by omega) a 2);have HEX:Hid (sq C R (.ql a []) st=thn (.ok st) fun s:Su=>.ok ((s.1,s.2++[cst a 2]),s.2.length)):=Lib.hid (sq_nil L.gd.fw R a st);have HW:Hid (wq C []=1):=Lib.hid rfl;rw [HEX.out,HW.out];clear HL HQ L s hl hB hin hM hm HEX HW;unfold ptr num at *;go_enter Tryz.func109,Tryz.ntmps109
    go_wp2_with (first
      | (go_at_call 63;(with_reducible refine HC.out.mono ?_);rintro e w1 hQ;have HQ:=Lib.hid hQ;obtain ⟨k,fv1,he,-⟩:=hQ;(replace he:e = .returned (.int .i64 ((k:Nat):Int)):=he);subst he))
    go_ret
    exact HQ.out
  | cons i r =>
    rw [wq_cons] at hM hB ⊢;have hTP:=T_pos C.ns i;have hm1:r.length+1=m:=by rw [← hm];rfl
    obtain ⟨g,o,c1,e,cc,hc1,hc2,hlt,hgz,htl⟩:=Sl.cons (u:=num i) (vs:=ints r) hl;injection e with e1 e2 e3;subst e1 e3;have hsl2:=fun X'=>slice_ints1 g o r.length lc m hm1 X'
    rw [ints_len] at htl;generalize (if lc=1 then some (⟨g,o,none⟩:Addr) else some ⟨g,o+1,none⟩)=SA at hsl2 htl;generalize lc - 1=sc at hsl2 htl;obtain ⟨⟨s1,k1⟩,hq1⟩:=quoted_sq L.gd.fw (wgt C (.qd a i)) (.qd a i) (Nat.le_refl _) trivial R st;obtain ⟨⟨s2,k2⟩,hq2⟩:=quoted_sq L.gd.fw (wgt C (.ql a r)) (.ql a r) (Nat.le_refl _) trivial R s1;have hEX:=sq_pair L.gd.fw R a i r st s1 s2 k1 k2 hq1 hq2;rw [hEX];have HC1:=HQ E w rv st B a R i (hin i (List.mem_cons_self ..)) (by omega) (by omega) s;rw [hq1] at HC1;have HC1:=Lib.hid HC1;have HC2:=Lib.hid (fun (w1:World) (rv1:Value) (f:Fr w w1 q rv rv1) (s':Sst w0 w1 E q h rv1 (.ok s1) (B+(2*T C.ns i - 1)))=>by
      have:=HL E w1 rv1 s1 (B+(2*T C.ns i - 1)) a R SA r.length sc r (by omega) (fun p hp=>hin p (List.mem_cons_of_mem _ hp)) rfl (by omega) (by omega) s' (f.sl htl);rw [hq2] at this;exact this)
    have HBB:Hid (B+(2*T C.ns i+wq C r)≤1000000000):=Lib.hid hB;have HTP:=Lib.hid hTP;have hm0:¬ (m:Int)=0:=by omega
    have hm0b:((m:Int) == 0)=false:=by simp;omega
    have hmp:(0:Int) < (m:Int):=by omega
    clear HL HQ L s hl hB hin hM hm hq1 hq2 hEX hgz htl e2 hc1 hc2 hTP;generalize r.length=rl at *;unfold ptr num at *;go_enter Tryz.func109,Tryz.ntmps109
    go_wp2_with (first
      | (go_at_call 65;(with_reducible refine HC1.out.mono ?_);rintro e w1 ⟨v1,rv1,he,hF1,hS1,hv1⟩;obtain rfl:v1=k1:=hv1 _ _ rfl;(replace he:e = .returned (.int .i64 ((v1:Nat):Int)):=he);subst he;have HC3:=Lib.hid (HC2.out _ _ hF1 hS1);have HF1:=Lib.hid hF1;clear hF1 hS1 hv1)
      | (go_at_call 109;(with_reducible refine HC3.out.mono ?_);rintro e w2 ⟨v2,rv2,he,hF2,hS2,hv2⟩;obtain rfl:v2=k2:=hv2 _ _ rfl;(replace he:e = .returned (.int .i64 ((v2:Nat):Int)):=he);subst he;have HP:=Lib.hid (sputs_any hS2 (by have:=HBB.out;omega) (⟨12,a,12,0,emp,0,[v1,v2]⟩:Rf) [v1,v2] (by simp) rfl rfl (m:=2) rfl (xs:=#[.int .i64 ((v1:Nat):Int),.int .i64 ((v2:Nat):Int)]) rfl);unfold ptr LX.emp at HP;simp only at HP;have HF2:=Lib.hid (HF1.out.trans hF2);clear hF2 hS2 hv2)
      | (go_at_call 67;(with_reducible refine HP.out.mono ?_);rintro e w3 hQ;have HQ:=Lib.hid (hQ.from HF2.out);obtain ⟨k,fv2,he,-⟩:=hQ;(replace he:e = .returned (.int .i64 ((k:Nat):Int)):=he);subst he))
    go_ret
    exact HQ.out.mono (by have:=HBB.out;have:=HTP.out;omega)
theorem quo_all (L:Lr w0 h C):∀ M,ListC w0 q h C M∧QuoC w0 q h C M:=by
  intro M;induction M with
  | zero =>
    have:ListC w0 q h C 0:=fun E w rv st B a R A m lc l hM=>by unfold wq at hM;omega
    exact ⟨this,quo_step this L⟩
  | succ M ih =>
    have:=list_step ih.1 ih.2 L;exact ⟨this,quo_step this L⟩
end
end SR
end Go.Proofs.YtehgmmbdlnginaaGreatDoor
namespace Go.Proofs.YtehgmmbdlnginaaGreatDoor
open Go.RowKit
set_option linter.unusedVariables false
namespace SR
open LX SX RW6 EX SC SM
open EW (Sl Zx Fr ptr num strs cell_far forms_slice form_info own_form sz_alloc beq_list strs_len ints_len NdR slice_ints1)
open RX (Nd)
theorem slice_one (g o n c:Nat) (hc:1≤c) (W:World):(Instr.slice 24 (.slice (some ⟨g,o,none⟩) n c) none (some (.int .i64 1)) none).run Tryz.prog W = .ok (.slice (some ⟨g,o,none⟩) 1 c) W:=by
  have hs:(sizeOf (Tryz.prog.elem 24)).run Tryz.prog W = .ok 1 W:=by kernel_rfl
  rw [run_slice_h (P:=Tryz.prog) W 24 (some ⟨g,o,none⟩) n c (by kernel_rfl) .i64 1 (by omega) (by omega),hs];simp [Result.andThen,sliced,Addr.add]
theorem slice_three (g o n c:Nat) (hc:3≤c) (W:World):(Instr.slice 24 (.slice (some ⟨g,o,none⟩) n c) none (some (.int .i64 3)) none).run Tryz.prog W = .ok (.slice (some ⟨g,o,none⟩) 3 c) W:=by
  have hs:(sizeOf (Tryz.prog.elem 24)).run Tryz.prog W = .ok 1 W:=by kernel_rfl
  rw [run_slice_h (P:=Tryz.prog) W 24 (some ⟨g,o,none⟩) n c (by kernel_rfl) .i64 3 (by omega) (by omega),hs];simp [Result.andThen,sliced,Addr.add]
section
variable {w0 w w1 w2:World} {E:List Nat} {q:Nat} {h:Dh} {rv rv1 V:Value} {X:Except Er Su} {B B':Nat} {C:Cx} {R:Rws} {st:Su}
theorem Env.form {Z:List Nat} (h:Env w Z V R):∃ A c,V = .slice A R.length c:=by
  obtain ⟨pvs,h1,h2,-⟩:=h;obtain ⟨A,c,e,_⟩:=h1;exact ⟨A,c,by rw [e,h2]⟩
theorem sput_all {Y:Except Er (Su × List Nat)} (hS:Sst w0 w E q h rv (fstsS Y) B) (hB:B≤1000000000) (f:Rf) {A:Option Addr} {c:Nat} {ks:List Nat} (hl:Sl w (E++Zx q rv) (.slice A ks.length c) (ints ks)) (hY:∀ s k,Y = .ok (s,k)→k=ks) :
    Calls Tryz.prog 67 #[ptr q,.agg #[.int .u8 f.kind,.int .i64 f.at_,.int .i64 f.n,.int .i64 f.a,.string f.s,.slice none 0 0,.int .u64 f.w,.slice A ks.length c]] w (OutS w0 w E q h rv (thn Y fun z=>.ok ((z.1.1,z.1.2++[{ f with l:=z.2 }]),z.1.2.length)) (B+1)):=by
  have:=sput_any hS hB { f with l:=ks } hl;rw [collectS Y f ks hY] at this;exact this
set_option maxHeartbeats 4000000 in
set_option maxRecDepth 20000 in
theorem sname_any (L:Lr w0 h C) (s:Sst w0 w E q h rv (.ok st) B) (hE:Env w (E++Zx q rv) V R) (hB:B+1≤1000000000) (f:Fm) {PA LA:Option Addr} {pc lc:Nat} (ha:0≤f.at_) :
    Calls Tryz.prog 66 #[ptr q,.agg #[.int .u8 f.kind,.int .i64 f.at_,.int .i64 f.n,.int .i64 0,.string f.s,.slice PA f.p.length pc,.int .u64 0,.slice LA f.l.length lc],V] w (OutS w0 w E q h rv (onQ C (nameP C R st.1 f) st.2) (B+1)):=by
  obtain ⟨VA,VC,rfl⟩:=hE.form;obtain ⟨kd,fa,fn,fs,fp,fl⟩:=f;simp only at ha ⊢
  unfold nameP;simp only
  generalize fp.length=pn;generalize fl.length=ln;have R0:=MM.Row.new w 39 [.int .u8 kd,.int .i64 fa,.int .i64 fn,.int .i64 0,.string fs,.slice PA pn pc,.int .u64 0,.slice LA ln lc];have F0:=(MM.Far.refl [] w).alloc (.cells #[.int .u8 kd,.int .i64 fa,.int .i64 fn,.int .i64 0,.string fs,.slice PA pn pc,.int .u64 0,.slice LA ln lc] 39);have HBX:=Lib.hid R0;have HF0:=Lib.hid F0;have HBZ:Hid (w.heap.size∉Zx q rv):=Lib.hid (fun hm=>by have:=s.low.2.1 _ hm;omega);have HWH:=Lib.hid (where_any (hE.far F0 (by simp)) fs);have HOWN:=Lib.hid (sown_any (s.to F0) fs);rw [L.own] at HOWN;have hWA:whA R fs=match wher R fs with | some (a,_)=>(a:Nat) | none=>-1:=rfl
  have hWN:whN R fs=match wher R fs with | some (_,n)=>(n:Nat) | none=>0:=rfl
  cases hw:wher R fs with
  | some x =>
    obtain ⟨a,n⟩:=x;rw [hw] at hWA hWN;simp only at hWA hWN
    rw [hWA,hWN] at HWH;have HP:=Lib.hid (sput_any (s.to F0) (by omega) (⟨11,fa,n,a,emp,0,[]⟩:Rf) (Sl.nil _ _));unfold LX.emp at HP;simp only at HP ⊢
    have h0:(0:Int)≤(a:Int):=by omega
    clear s hE L hWA hWN hw R0 F0 HOWN;generalize R.length=rl at *
    (try unfold num at *);unfold ptr at *
    go_enter Tryz.func66,Tryz.ntmps66
    go_wp2_with (first
      | (go_at_call 110;(with_reducible refine HWH.out.mono ?_);rintro e w1 ⟨rfl,rfl⟩)
      | (go_at_call 67;(with_reducible refine HP.out.mono ?_);rintro e w1 hQ;have HQ:=Lib.hid (hQ.from (Fr.quiet HF0.out));obtain ⟨k,fv1,he,-⟩:=hQ;(replace he:e = .returned (.int .i64 ((k:Nat):Int)):=he);subst he))
    go_ret
    exact HQ.out
  | none =>
    rw [hw] at hWA hWN;simp only at hWA hWN
    rw [hWA,hWN] at HWH;simp only
    by_cases ho:fs∈C.own
    · rw [if_pos ho];rw [decide_eq_true ho] at HOWN;have HNUM:=Lib.hid (snumber_any (s.to F0.drew) L.gd.few (L.gd.ownP ho));have HB:=Lib.hid hB;clear s hE L hWA hWN hw R0 F0 hB ho;generalize R.length=rl at *;have HEX:Hid (onQ C (.mk ⟨4,fa,NP.putI st.1 fs,0,fs,0,[]⟩ R [],NP.putL st.1 fs) st.2=thn (.ok (NP.putL st.1 fs,st.2)) fun s:Su=>.ok ((s.1,s.2++[(⟨4,fa,NP.putI st.1 fs,0,fs,0,[]⟩:Rf)]),s.2.length)):=Lib.hid rfl;rw [HEX.out];clear HEX;generalize NP.putL st.1 fs=N1 at *;generalize NP.putI st.1 fs=n1 at *
      (try unfold num at *);unfold ptr at *
      go_enter Tryz.func66,Tryz.ntmps66
      go_wp2_with (first
        | (go_at_call 110;(with_reducible refine HWH.out.mono ?_);rintro e w1 ⟨rfl,rfl⟩)
        | (go_at_call 111;(with_reducible refine HOWN.out.mono ?_);rintro e w1 ⟨rfl,rfl⟩))
      generalize w.alloc (.cells #[.int .u8 kd,.int .i64 fa,.int .i64 fn,.int .i64 0,.string fs,.slice PA pn pc,.int .u64 0,.slice LA ln lc] 39)=W at *;have ru1:=HBX.out.at (i:=1) rfl;have ru4:=HBX.out.at (i:=4) rfl
      go_region_held3 (fun w'=>w'.cell? ⟨w.heap.size,1,none⟩=some (.int .i64 fa)∧w'.cell? ⟨w.heap.size,4,none⟩=some (.string fs)) (first | (with_reducible assumption) | go_keep) (first
        | (go_at_call 108;(with_reducible refine HNUM.out.mono ?_);rintro e w4 ⟨rfl,hS4,hF4⟩;have HB4:=Lib.hid (HBX.out.drew.far hF4.far HBZ.out);have hk:w4.cell? ⟨w.heap.size,1,none⟩=some (.int .i64 fa)∧w4.cell? ⟨w.heap.size,4,none⟩=some (.string fs):=⟨HB4.out.at (i:=1) rfl,HB4.out.at (i:=4) rfl⟩;have HP:=Lib.hid (sput_any hS4 (by have:=HB.out;omega) (⟨4,fa,n1,0,fs,0,[]⟩:Rf) (Sl.nil _ _));unfold ptr at HP;simp only at HP;have HF4:=Lib.hid ((Fr.quiet HF0.out.drew).trans hF4);clear hS4 hF4)
        | (go_at_call 67;(with_reducible refine HP.out.mono ?_);rintro e w5 hQ;have HQ:=Lib.hid (hQ.from HF4.out);obtain ⟨k,fv1,he,hF5,-⟩:=hQ;(replace he:e = .returned (.int .i64 ((k:Nat):Int)):=he);subst he;have HB5:=Lib.hid (HB4.out.far hF5.far HBZ.out);have hk:w5.cell? ⟨w.heap.size,1,none⟩=some (.int .i64 fa)∧w5.cell? ⟨w.heap.size,4,none⟩=some (.string fs):=⟨HB5.out.at (i:=1) rfl,HB5.out.at (i:=4) rfl⟩;clear hF5))
      go_wp2;go_ret
      exact HQ.out
    · rw [if_neg ho];rw [decide_eq_false ho] at HOWN;have HPR:=Lib.hid (rprim_any (w.alloc (.cells #[.int .u8 kd,.int .i64 fa,.int .i64 fn,.int .i64 0,.string fs,.slice PA pn pc,.int .u64 0,.slice LA ln lc] 39)) fs);have HWR:=Lib.hid (fun (w2:World) (f:MM.Far [] w w2) (er:Int)=>swrong_any (s.to f) kd fa fn 0 fs 0 (PA:=PA) (LA:=LA) (pn:=pn) (pc:=pc) (ln:=ln) (lc:=lc) ha er);unfold noName;clear s hE L hWA hWN hw R0 F0 hB ho;generalize R.length=rl at *;cases hp:isPrim fs with
      | true =>
        rw [hp] at HPR;have HEX:Hid (onQ C (.bad fa (if true=true then 90 else 91),st.1) st.2 = .error (fa,90,st.1)):=Lib.hid rfl;rw [HEX.out];clear HEX hp
        (try unfold num at *);unfold ptr at *
        go_enter Tryz.func66,Tryz.ntmps66
        go_wp2_with (first
          | (go_at_call 110;(with_reducible refine HWH.out.mono ?_);rintro e w1 ⟨rfl,rfl⟩)
          | (go_at_call 111;(with_reducible refine HOWN.out.mono ?_);rintro e w1 ⟨rfl,rfl⟩)
          | (go_at_call 78;(with_reducible refine HPR.out.mono ?_);rintro e w3 ⟨rfl,hF3⟩;have HB3:=Lib.hid (HBX.out.far hF3 (by simp));have HF3:=Lib.hid (HF0.out.trans hF3 (by simp));have HW3:=Lib.hid (HWR.out _ HF3.out 90);have t0:=HB3.out.at (i:=0) rfl;have t1:=HB3.out.at (i:=1) rfl;have t2:=HB3.out.at (i:=2) rfl;have t3:=HB3.out.at (i:=3) rfl;have t4:=HB3.out.at (i:=4) rfl;have t5:=HB3.out.at (i:=5) rfl;have t6:=HB3.out.at (i:=6) rfl;have t7:=HB3.out.at (i:=7) rfl;clear hF3)
          | (go_at_call 112;(with_reducible refine HW3.out.mono ?_);rintro e w1 hQ;have HQ:=Lib.hid (hQ.from (Fr.quiet HF3.out));obtain ⟨k,fv1,he,-⟩:=hQ;(replace he:e = .returned (.int .i64 ((k:Nat):Int)):=he);subst he))
        go_ret
        exact HQ.out.mono (by omega)
      | false =>
        rw [hp] at HPR;have HEX:Hid (onQ C (.bad fa (if false=true then 90 else 91),st.1) st.2 = .error (fa,91,st.1)):=Lib.hid rfl;rw [HEX.out];clear HEX hp
        (try unfold num at *);unfold ptr at *
        go_enter Tryz.func66,Tryz.ntmps66
        go_wp2_with (first
          | (go_at_call 110;(with_reducible refine HWH.out.mono ?_);rintro e w1 ⟨rfl,rfl⟩)
          | (go_at_call 111;(with_reducible refine HOWN.out.mono ?_);rintro e w1 ⟨rfl,rfl⟩)
          | (go_at_call 78;(with_reducible refine HPR.out.mono ?_);rintro e w3 ⟨rfl,hF3⟩;have HB3:=Lib.hid (HBX.out.far hF3 (by simp));have HF3:=Lib.hid (HF0.out.trans hF3 (by simp));have HW3:=Lib.hid (HWR.out _ HF3.out 91);have t0:=HB3.out.at (i:=0) rfl;have t1:=HB3.out.at (i:=1) rfl;have t2:=HB3.out.at (i:=2) rfl;have t3:=HB3.out.at (i:=3) rfl;have t4:=HB3.out.at (i:=4) rfl;have t5:=HB3.out.at (i:=5) rfl;have t6:=HB3.out.at (i:=6) rfl;have t7:=HB3.out.at (i:=7) rfl;clear hF3)
          | (go_at_call 112;(with_reducible refine HW3.out.mono ?_);rintro e w1 hQ;have HQ:=Lib.hid (hQ.from (Fr.quiet HF3.out));obtain ⟨k,fv1,he,-⟩:=hQ;(replace he:e = .returned (.int .i64 ((k:Nat):Int)):=he);subst he))
        go_ret
        exact HQ.out.mono (by omega)
end
end SR
end Go.Proofs.YtehgmmbdlnginaaGreatDoor
