/-
  Several texts in one: ScoC18,ScoM4,ScoM5.
-/
import Derived.Test.YtkcgbhlnkfogeaaGreatDoorQScoC17
import Derived.Test.YtkcgbhlnkfogeaaGreatDoorQScoM3
import Derived.Deep.LoopGhost
import Derived.Deep.RegionLaw
import Derived.Deep.CutRange
namespace Go.Proofs.YtkcgbhlnkfogeaaGreatDoor
open Go.RowKit
set_option linter.unusedVariables false
namespace SM
open LX SX RW6 EX SC
open EW (Sl Bx ptr num strs bx_new z_alloc sz_alloc z_far z_drew made_list sl_new keep2 keep3 keep4 ints_len int_head NdR FmR Bx.cons)
section
variable {w0 w w1 W:World} {Y Z:List Nat} {q g:Nat} {h:Hd} {C:Cx} {K:List ByteArray} {R:Rws} {N:List ByteArray}
set_option maxHeartbeats 4000000 in
set_option maxRecDepth 20000 in
theorem form_call (E:Ev w0 w Y Z q g h C K R N) {i bx bi:Nat} (hi:i < C.fs.length) (h1:Bx w Z bx 94 (ptr q)) (h2:Bx w Z bi 3 (num i)) (hR:R.length < 1000000000) :
    Calls Tryz.prog 106 #[ptr bx,ptr bi] w (EvQ w0 w Y Z q g h C (rA R (evF C R N (fmAt C.fs i)).1) (evF C R N (fmAt C.fs i)).2 (evF C R N (fmAt C.fs i)).1):=by
  obtain ⟨k,hk⟩:∃ k,w.heap.size=k:=⟨_,rfl⟩
  obtain ⟨W,hW⟩:∃ W,w.alloc zS=W:=⟨_,rfl⟩
  have F0:MM.Far [] w W:=by rw [← hW];exact (MM.Far.refl [] w).alloc _
  have HB0:Hid (SnBox W k):=Lib.hid (by rw [← hW];exact SnBox.new hk);have E1:=E.box F0.drew (by omega:w.heap.size≤k) HB0.out.lt;obtain ⟨fb,fo,P0,pc0,L0,lc0,fc,hfv,d0,d1,d2,d3,d4,d5,d6,d7,hP0,hL0,hfbz⟩:=E1.formAt hi;replace d0:W.cell? ⟨fb,fo+i*8,none⟩=_:=d0;replace d1:W.cell? ⟨fb,fo+i*8+1,none⟩=_:=d1;replace d2:W.cell? ⟨fb,fo+i*8+2,none⟩=_:=d2;replace d3:W.cell? ⟨fb,fo+i*8+3,none⟩=_:=d3;replace d4:W.cell? ⟨fb,fo+i*8+4,none⟩=_:=d4;replace d5:W.cell? ⟨fb,fo+i*8+5,none⟩=_:=d5;replace d6:W.cell? ⟨fb,fo+i*8+6,none⟩=_:=d6;replace d7:W.cell? ⟨fb,fo+i*8+7,none⟩=_:=d7;obtain ⟨bv,im,hh⟩:=(E.sc.to F0).head;have x1:W.cell? ⟨q,1,none⟩=some h.lv:=hh.at (i:=1) rfl;rw [hfv] at x1;have HC:=Lib.hid (plan_any E1 hi hL0 hP0 hR);obtain ⟨fl,hfl⟩:∃ fl,C.fs.length=fl:=⟨_,rfl⟩
  have hX1:∀ (w1:World) (Y1:List Nat) {R1:Rws} {N1:List ByteArray},Sc w0 w1 Y1 q g h (ownC C) R1 N1→w1.cell? ⟨q,1,none⟩=some (.slice (some ⟨fb,fo,none⟩) fl fc):=fun w1 Y1 R1 N1 s=>by
    obtain ⟨bv',im',hh'⟩:=s.head;have:w1.cell? ⟨q,1,none⟩=some h.lv:=hh'.at (i:=1) rfl;rw [this,hfv,hfl]
  have HX1:=Lib.hid @hX1;rw [hfl] at x1 hi;obtain ⟨sn,hsn⟩:∃ sn,(evF C R N (fmAt C.fs i)).1=sn:=⟨_,rfl⟩
  obtain ⟨N2,hN2⟩:∃ N2,(evF C R N (fmAt C.fs i)).2=N2:=⟨_,rfl⟩
  rw [hsn,hN2] at HC ⊢;clear hsn hN2;generalize rA R sn=R2 at *;generalize fmAt C.fs i=f0 at *;obtain ⟨np0,hnp0⟩:∃ np0,f0.p.length=np0:=⟨_,rfl⟩
  obtain ⟨m0,hm0⟩:∃ m0,f0.l.length=m0:=⟨_,rfl⟩
  rw [hnp0] at d5 HC;rw [hm0] at d7 HC;unfold fmV at HC;have hj0:(0:Int)≤(i:Int):=by omega
  have hj1:(i:Int) < (fl:Int):=by omega
  have g1:=farC F0 h1.at;have g2:=farC F0 h2.at;have n1:=World.new_ne w ⟨bx,0,none⟩ h1.at;have n2:=World.new_ne w ⟨bi,0,none⟩ h2.at;have hqY:=E.sc.qlt;have n3:w.heap.size≠q:=fun e=>by have:=E.sc.eb.y _ hqY;omega
  have n4:w.heap.size≠fb:=fun e=>hfbz (by rw [← e,hk];exact List.mem_cons_self ..)
  have HBX:=Lib.hid (show bx∉Y from fun hm=>h1.out (E.sub _ hm));have HBI:=Lib.hid (show bi∉Y from fun hm=>h2.out (E.sub _ hm));have HFB:=Lib.hid (show fb∉Y from fun hm=>hfbz (List.mem_cons_of_mem _ (E.sub _ hm)));have HEB:=Lib.hid E.sc.eb;have HB:=Lib.hid (HB0.out.far ((MM.Far.refl [] W).drew) (by simp));have HBW:Hid (k < W.drew.heap.size):=Lib.hid HB0.out.lt;have HF:=Lib.hid F0.drew;have HK:=Lib.hid hk;clear E E1 F0 h1 h2 HB0 hfv hP0 hL0 hfbz hh hX1 hnp0 hm0 hqY hfl;subst hW;subst hk;unfold zS num at *;unfold ptr at *;go_enter Tryz.func106,Tryz.ntmps106
  go_wp2;generalize w.alloc (.cells #[.int .i64 0,.int .u8 0,.int .i64 0,.int .i64 0,.int .i64 0,.string ⟨#[]⟩,.slice none 0 0,.int .u64 0,.slice none 0 0,.slice none 0 0] 145)=W at *
  go_region_held3 (fun w'=>w'.cell? ⟨bx,0,none⟩=some (.pointer (some ⟨q,0,none⟩))∧w'.cell? ⟨bi,0,none⟩=some (.int .i64 (i:Nat))∧w'.cell? ⟨q,1,none⟩=some (.slice (some ⟨fb,fo,none⟩) fl fc)∧w'.cell? ⟨fb,fo+i*8,none⟩=some (.int .u8 f0.kind)∧w'.cell? ⟨fb,fo+i*8+1,none⟩=some (.int .i64 f0.at_)∧w'.cell? ⟨fb,fo+i*8+2,none⟩=some (.int .i64 f0.n)∧w'.cell? ⟨fb,fo+i*8+3,none⟩=some (.int .i64 0)∧w'.cell? ⟨fb,fo+i*8+4,none⟩=some (.string f0.s)∧w'.cell? ⟨fb,fo+i*8+5,none⟩=some (.slice P0 np0 pc0)∧w'.cell? ⟨fb,fo+i*8+6,none⟩=some (.int .u64 0)∧w'.cell? ⟨fb,fo+i*8+7,none⟩=some (.slice L0 m0 lc0)) (first | (with_reducible assumption) | go_keep) (first
    | (go_at_call 107;(with_reducible refine HC.out.mono ?_);rintro e w1 ⟨v,Y1,rfl,hY1,hF1,hS1,hI1⟩;obtain ⟨e1,f1,A1,m1,c1,rfl,hl1⟩:=hI1.form;have HY1:=Lib.hid hY1;have HF1:=Lib.hid hF1;have HS1:=Lib.hid hS1;have HI1:=Lib.hid hI1;have HB1:=Lib.hid (HB.out.far hF1 (fun hm=>by have:=HEB.out.y _ hm;omega));have hk0:W.drew.cell? ⟨bx,0,none⟩=some (.pointer (some ⟨q,0,none⟩))∧W.drew.cell? ⟨bi,0,none⟩=some (.int .i64 (i:Nat))∧W.drew.cell? ⟨q,1,none⟩=some (.slice (some ⟨fb,fo,none⟩) fl fc)∧W.drew.cell? ⟨fb,fo+i*8,none⟩=some (.int .u8 f0.kind)∧W.drew.cell? ⟨fb,fo+i*8+1,none⟩=some (.int .i64 f0.at_)∧W.drew.cell? ⟨fb,fo+i*8+2,none⟩=some (.int .i64 f0.n)∧W.drew.cell? ⟨fb,fo+i*8+3,none⟩=some (.int .i64 0)∧W.drew.cell? ⟨fb,fo+i*8+4,none⟩=some (.string f0.s)∧W.drew.cell? ⟨fb,fo+i*8+5,none⟩=some (.slice P0 np0 pc0)∧W.drew.cell? ⟨fb,fo+i*8+6,none⟩=some (.int .u64 0)∧W.drew.cell? ⟨fb,fo+i*8+7,none⟩=some (.slice L0 m0 lc0):=by { assumption };have hk1:w1.cell? ⟨bx,0,none⟩=some (.pointer (some ⟨q,0,none⟩))∧w1.cell? ⟨bi,0,none⟩=some (.int .i64 (i:Nat))∧w1.cell? ⟨q,1,none⟩=some (.slice (some ⟨fb,fo,none⟩) fl fc)∧w1.cell? ⟨fb,fo+i*8,none⟩=some (.int .u8 f0.kind)∧w1.cell? ⟨fb,fo+i*8+1,none⟩=some (.int .i64 f0.at_)∧w1.cell? ⟨fb,fo+i*8+2,none⟩=some (.int .i64 f0.n)∧w1.cell? ⟨fb,fo+i*8+3,none⟩=some (.int .i64 0)∧w1.cell? ⟨fb,fo+i*8+4,none⟩=some (.string f0.s)∧w1.cell? ⟨fb,fo+i*8+5,none⟩=some (.slice P0 np0 pc0)∧w1.cell? ⟨fb,fo+i*8+6,none⟩=some (.int .u64 0)∧w1.cell? ⟨fb,fo+i*8+7,none⟩=some (.slice L0 m0 lc0):=⟨farY hF1 hk0.1 HBX.out,farY hF1 hk0.2.1 HBI.out,HX1.out _ _ hS1,farY hF1 hk0.2.2.2.1 HFB.out,farY hF1 hk0.2.2.2.2.1 HFB.out,farY hF1 hk0.2.2.2.2.2.1 HFB.out,farY hF1 hk0.2.2.2.2.2.2.1 HFB.out,farY hF1 hk0.2.2.2.2.2.2.2.1 HFB.out,farY hF1 hk0.2.2.2.2.2.2.2.2.1 HFB.out,farY hF1 hk0.2.2.2.2.2.2.2.2.2.1 HFB.out,farY hF1 hk0.2.2.2.2.2.2.2.2.2.2 HFB.out⟩;clear hY1 hF1 hS1 hI1;obtain ⟨v0,v1,v2,v3,v4,v5,v6,v7,v8,v9,y0,y1,y2,y3,y4,y5,y6,y7,y8,y9,hfz⟩:=HB1.out.cells;obtain ⟨fk,fa,fn,fA,fs,fw,fl⟩:=f1;simp only at hl1;subst hl1;unfold snV num))
  go_wp2;exact fin_ev rfl rfl rfl HEB.out HF.out (by omega) HBW.out HY1.out HF1.out HS1.out HB1.out HI1.out
theorem part_ev (E:Ev w0 w Y Z q g h C K R N) {v:Value} {p:Sp} (hI:Ip w Z q v p) (ht:ThS C p) (hR:R.length < 1000000000) :
    ∃ f cs,v = .func (.func f) #[] cs∧(∀ W,(callFunc f cs).run Tryz.prog W = .ok (.enter f cs) W)∧Calls Tryz.prog f cs w (EvQ w0 w Y Z q g h C (rA R (evS C R N p).1) (evS C R N p).2 (evS C R N p).1):=by
  cases hI with
  | form h1 h2=>exact ⟨_,_,rfl,fun W=>by kernel_rfl,form_call E ht h1 h2 hR⟩
  | @qd bx ba bl a v i l h1 h2 h3 h4 =>
    refine ⟨_,_,rfl,fun W=>by kernel_rfl,?_⟩
    show Calls _ _ _ _ (EvQ w0 w Y Z q g h C (rA R (SC.quo C.ns R N a i).1) (SC.quo C.ns R N a i).2 (SC.quo C.ns R N a i).1)
    rw [rA_quo];exact qd_call E ht.2 h1 h2 h3 h4
  | @ql bx ba bl a v i l h1 h2 h3 h4 =>
    refine ⟨_,_,rfl,fun W=>by kernel_rfl,?_⟩
    show Calls _ _ _ _ (EvQ w0 w Y Z q g h C (rA R (quoL R a l)) N (quoL R a l))
    rw [rA_quoL];exact ql_call E h1 h2 h3 h4
end
end SM
end Go.Proofs.YtkcgbhlnkfogeaaGreatDoor
namespace Go.Proofs.YtkcgbhlnkfogeaaGreatDoor
open Go.RowKit
set_option linter.unusedVariables false
namespace SM
open LX SX RW6 EX SC
theorem RO.len:∀ {os:List Oq} {R:Rws},RO os R→R.length≤os.length:=by
  intro os;induction os with
  | nil=>intro R h;rw [show R=[] from h];exact Nat.le_refl _
  | cons o os ih =>
    intro R h;unfold RO at h;split at h
    · obtain ⟨r,R',rfl,_,h⟩:=h;have:=ih h;simp;omega
    · have:=ih h;simp;omega
theorem ev_six {C:Cx} {K:List ByteArray} (h:Gd C K) (hfl:∀ i,(fmAt C.fs i).l.length≤100000) {R R':Rws} {N N':List ByteArray} {p:Sp} {f:Rf} {ps:List Sp} (hp:ThS C p) (hR:RwOk R) (hlt:R.length < 1000000000) (e:evS C R N p=(.mk f R' ps,N')) :
    (f.kind=6→∃ r,R'=r::R∧f.n=(r.length:Nat))∧(f.kind≠6→R'=R)∧RwOk R'∧ps.length≤100000:=by
  have fin:∀ {x:Rf} {qs:List Sp} {M:List ByteArray},((.mk x R qs,M):Sn × List ByteArray)=(.mk f R' ps,N')→x.kind≠6→qs.length≤100000→(f.kind=6→∃ r,R'=r::R∧f.n=(r.length:Nat))∧(f.kind≠6→R'=R)∧RwOk R'∧ps.length≤100000:=by
    intro x qs M e hk hq;simp only [Prod.mk.injEq,Sn.mk.injEq] at e
    obtain ⟨⟨rfl,rfl,rfl⟩,-⟩:=e;exact ⟨fun h6=>absurd h6 hk,fun _=>rfl,hR,hq⟩
  have n6:∀ {k:Int},k≠6→k≠6:=id;have hql:∀ a l (M:List ByteArray),(quoL R a l,M)=(.mk f R' ps,N')→(f.kind=6→∃ r,R'=r::R∧f.n=(r.length:Nat))∧(f.kind≠6→R'=R)∧RwOk R'∧ps.length≤100000:=by
    intro a l M e;cases l with
    | nil=>exact fin e (show (13:Int)≠6 by decide) (by simp)
    | cons i l=>exact fin e (show (12:Int)≠6 by decide) (by simp)
  have hq:∀ a i,SC.quo C.ns R N a i=(.mk f R' ps,N')→(f.kind=6→∃ r,R'=r::R∧f.n=(r.length:Nat))∧(f.kind≠6→R'=R)∧RwOk R'∧ps.length≤100000:=by
    intro a i e;unfold SC.quo at e;split at e
    · exact fin e (show (13:Int)≠6 by decide) (by simp)
    split at e
    · exact fin e (show (13:Int)≠6 by decide) (by simp)
    split at e
    · exact fin e (show (13:Int)≠6 by decide) (by simp)
    · exact hql _ _ _ e
  cases p with
  | qd a i=>exact hq a i e
  | ql a l=>exact hql a l N e
  | form i =>
    simp only [evS] at e
    have hgf:=h.form i hp;have hl:=hfl i;generalize fmAt C.fs i=g at e hgf hl;have hlm:(g.l.map Sp.form).length≤100000:=by rw [List.length_map];exact hl
    unfold evF at e;split at e
    · exact fin e (show (13:Int)≠6 by decide) (by simp)
    split at e
    · exact fin e (show (13:Int)≠6 by decide) (by simp)
    split at e
    · exact hq _ _ e
    split at e
    · unfold nameP at e;split at e
      · exact fin e (show (11:Int)≠6 by decide) (by simp)
      · split at e
        · exact fin e (show (4:Int)≠6 by decide) (by simp)
        · cases e
    split at e
    · simp only [Prod.mk.injEq,Sn.mk.injEq] at e
      obtain ⟨⟨rfl,rfl,rfl⟩,-⟩:=e;refine ⟨fun _=>⟨g.p,rfl,rfl⟩,fun h6=>absurd rfl h6,⟨fun r hr=>?_,by rw [List.length_cons];omega⟩,hlm⟩
      rcases List.mem_cons.1 hr with rfl | hr
      · exact ⟨hgf.names.nodup,hgf.names.few⟩
      · exact hR.1 r hr
    split at e
    · unfold setP' at e;split at e
      · exact fin e (show (7:Int)≠6 by decide) hlm
      · split at e
        · exact fin e (show (7:Int)≠6 by decide) hlm
        · cases e
    split at e
    · unfold defP at e;split at e
      · cases e
      · exact fin e (show (9:Int)≠6 by decide) hlm
    split at e
    · unfold callP at e;split at e
      · split at e
        · cases e
        · exact fin e (show (12:Int)≠6 by decide) (by rw [List.length_map,List.length_drop];omega)
      · exact fin e (show (10:Int)≠6 by decide) hlm
    · rename_i h6 _ _ _;exact fin e h6 hlm
theorem RO.push {os:List Oq} {R R':Rws} {f:Rf} {ps:List Sp} (h:RO os R) (h6:f.kind=6→∃ r,R'=r::R∧f.n=(r.length:Nat)) (hn:f.kind≠6→R'=R):RO (⟨{ f with l:=[] },ps⟩::os) R':=by
  unfold RO;by_cases k:f.kind=6
  · rw [if_pos k];obtain ⟨r,rfl,e⟩:=h6 k;exact ⟨r,R,rfl,e,h⟩
  · rw [if_neg k,hn k];exact h
theorem goOnS_end:∀ (n:Nat) (op:List Oq),op.length=n→∀ (row:List Rf) (tops:List Nat) (R:Rws),((goOnS row tops R op).next=none→(goOnS row tops R op).op=[])∧(∀ p,(goOnS row tops R op).next=some p→∃ o os,(goOnS row tops R op).op=o::os∧o.f.l.length < o.ps.length∧p∈o.ps):=by
  intro n;induction n with
  | zero =>
    intro op hn row tops R;obtain rfl:=List.eq_nil_of_length_eq_zero hn;rw [goOnS_nil];exact ⟨fun _=>rfl,fun p e=>by cases e⟩
  | succ n ih =>
    intro op hn row tops R;cases op with
    | nil=>cases hn
    | cons o os =>
      by_cases hlt:o.f.l.length < o.ps.length
      · rw [goOnS_next _ _ _ _ _ hlt];exact ⟨fun e=>(by cases e),fun p e=>⟨o,os,rfl,hlt,by injection e with e;rw [← e];exact List.getElem_mem hlt⟩⟩
      · rw [goOnS_fin _ _ _ _ _ hlt];cases os with
        | nil=>exact ⟨fun _=>rfl,fun p e=>by cases e⟩
        | cons o2 os2=>exact ih (o2.add row.length::os2) (by simpa using hn) _ _ _
def GoodS (C:Cx) (op:List Oq):Prop:=∀ o∈op,∀ p∈o.ps,ThS C p
theorem goOnS_good (C:Cx):∀ (n:Nat) (op:List Oq),op.length=n→∀ (row:List Rf) (tops:List Nat) (R:Rws),GoodS C op→GoodS C (goOnS row tops R op).op:=by
  intro n;induction n with
  | zero =>
    intro op hn row tops R h;obtain rfl:=List.eq_nil_of_length_eq_zero hn;rw [goOnS_nil];exact h
  | succ n ih =>
    intro op hn row tops R h;cases op with
    | nil=>cases hn
    | cons o os =>
      by_cases hlt:o.f.l.length < o.ps.length
      · rw [goOnS_next _ _ _ _ _ hlt];exact h
      · rw [goOnS_fin _ _ _ _ _ hlt];cases os with
        | nil=>exact fun o ho=>by cases ho
        | cons o2 os2 =>
          refine ih (o2.add row.length::os2) (by simpa using hn) _ _ _ (fun x hx=>?_)
          rcases List.mem_cons.1 hx with rfl | hx
          · exact h o2 (by simp)
          · exact h x (by simp [hx])
theorem FewS.push {B:Nat} {row:List Rf} {tops:List Nat} {os:List Oq} (h:FewS B row tops os) (ht:tops.length+1≤100000) (hh:∀ o∈os.head?,o.f.l.length < o.ps.length) (f:Rf) {ps:List Sp} (hp:ps.length≤100000):FewS (B+1) row tops (⟨{ f with l:=[] },ps⟩::os):=by
  refine ⟨by have:=h.sum;simp;omega,by simp;omega,fun x hx=>?_,fun x hx=>?_⟩
  · rcases List.mem_cons.1 hx with rfl | hx
    · exact ⟨Nat.zero_le _,hp⟩
    · exact h.head x hx
  · cases os with
    | nil=>cases hx
    | cons o os =>
      rcases List.mem_cons.1 hx with rfl | hx
      · exact hh x rfl
      · exact h.tail x hx
end SM
end Go.Proofs.YtkcgbhlnkfogeaaGreatDoor
namespace Go.Proofs.YtkcgbhlnkfogeaaGreatDoor
open Go.RowKit
set_option linter.unusedVariables false
namespace SM
open LX SX RW6 EX SC
open EW (Sl Bx ptr num strs sz_alloc bx_new z_alloc)
open RX (Nd)
open RM6 (Kin)
def hd0 (dv lv dm fv tv hv:Value):Hd:=⟨dv,lv,dm,fv,tv,hv⟩
theorem Lz.to {w0:World} {dv lv dm fv tv hv fv' tv' hv':Value} {C:Cx} {K:List ByteArray} (L:Lz w0 ⟨dv,lv,dm,fv,tv,hv⟩ C K):Lz w0 ⟨dv,lv,dm,fv',tv',hv'⟩ C K:=⟨L.gd,L.pt,L.dat,L.frm,L.few,L.fl⟩
theorem Sy.ev {w0 w:World} {Z Y:List Nat} {q g:Nat} {dv lv dm:Value} {C:Cx} {K:List ByteArray} {R:Rws} {N:List ByteArray} {fv tv hv ov:Value} {rs:List (Rf × Value)} {tops:List Nat} {os:List Pz} {ex:List (Value × List Nat)}
    (h:Sy w0 w Z Y q g dv lv dm (ownC C) R N fv tv hv ov rs tops os ex) (L:Lz w0 ⟨dv,lv,dm,.nilFunc,.nilFunc,.nilFunc⟩ C K) (hN:Nk K N) (hR:RwOk R):Ev w0 w Y Z q g ⟨dv,lv,dm,fv,tv,hv⟩ C K R N :=
  ⟨L.to,h.sc,hN,hR.1,hR.2,h.mc.z,h.mc.low,h.mc.sub⟩
def RsQ (w0 w:World) (Z:List Nat) (q g:Nat) (dv lv dm:Value) (C:Cx) (K:List ByteArray) (B:Nat):Fin→Ending→World→Prop
  | .error x,e,w'=>e = .returned (.tuple #[.int .i64 x.1,.int .i64 x.2.1])∧MM.Far Z w w'∧∃ Z' Y' R' h',Yto w Z Z'∧Sc w0 w' Y' q g h' (ownC C) R' x.2.2∧∀ b∈Y',b∈Z'
  | .ok r,e,w'=>e = .returned (.tuple #[.int .i64 0,.int .i64 0])∧MM.Far Z w w'∧∃ Z' Y' fv tv ov rs,Yto w Z Z'∧Sy w0 w' Z' Y' q g dv lv dm (ownC C) [] r.1 fv tv ov ov rs r.2.2 [] []∧rs.map (·.1)=r.2.1∧FewS B r.2.1 r.2.2 []∧Nk K r.1
def RsI (w0 wA:World) (Z:List Nat) (q g:Nat) (dv lv dm:Value) (C:Cx) (K:List ByteArray) (B:Nat) (X:Fin) (k:Nat) (v:Value) (wr:World):Prop :=
  ∃ Z1 Y1 fv tv ov R N rs tops os nx B0,MM.Far Z wA wr∧Yto wA Z Z1∧Sy w0 wr Z1 Y1 q g dv lv dm (ownC C) R N fv tv ov ov rs tops os []∧nextQ wr Z1 q v nx∧goS C k N ⟨rs.map (·.1),tops,R,os.map (·.o),nx⟩=some X∧B0+k≤B ∧
    FewS B0 (rs.map (·.1)) tops (os.map (·.o))∧GoodS C (os.map (·.o))∧(∀ p,nx=some p→ThS C p∧tops.length+1≤100000∧∀ o∈(os.map (·.o)).head?,o.f.l.length < o.ps.length)∧(nx=none→os=[])∧RO (os.map (·.o)) R∧RwOk R∧Nk K N
def Cut3 (w0 wA w:World) (Z:List Nat) (q g:Nat) (dv lv dm fv tv:Value) (C:Cx) (R:Rws) (N:List ByteArray) (rs:List (Rf × Value)) (tops:List Nat) (n:Nat) (os:List Pz) (bx:Nat) (wx:World):Prop :=
  ∃ Z2 Y2 A c,MM.Far Z wA wx∧Yto wA Z Z2∧Sy w0 wx Z2 Y2 q g dv lv dm (ownC C) R N fv tv (.slice A n c) (.slice A n c) rs tops os []∧wx.cell? ⟨bx,0,none⟩=some (.pointer (some ⟨q,0,none⟩))∧w.heap.size≤wx.heap.size
section
variable {w0 w:World} {Z Y:List Nat} {q g:Nat} {dv lv dm:Value} {C:Cx} {K:List ByteArray} {N:List ByteArray} {fv tv ov:Value} {rs:List (Rf × Value)} {tops:List Nat}
set_option maxHeartbeats 8000000 in
set_option maxRecDepth 20000 in
theorem resolve_any {B B0 i m:Nat} {X:Fin} (hB:B≤900000000) (L:Lz w0 ⟨dv,lv,dm,.nilFunc,.nilFunc,.nilFunc⟩ C K) (h:Sy w0 w Z Y q g dv lv dm (ownC C) [] N fv tv ov ov rs tops [] []) (hN:Nk K N) (hi:i < C.fs.length)
    (hgo:goS C m N ⟨rs.map (·.1),tops,[],[],some (.form i)⟩=some X) (hm:B0+m≤B) (hF:FewS B0 (rs.map (·.1)) tops []) (ht:tops.length+1≤100000) :
    Calls Tryz.prog 38 #[ptr q,num i] w (RsQ w0 w Z q g dv lv dm C K B X):=by
  obtain ⟨wA,hwA⟩:∃ wA,(w.alloc (.cells #[ptr q] 94)).alloc (.cells #[num i] 3)=wA:=⟨_,rfl⟩
  have FA:MM.Far [] w wA:=by rw [← hwA];exact ((MM.Far.refl [] w).alloc _).alloc _
  have hz:=h.mc.z;have B1:Bx wA Z w.heap.size 94 (ptr q):=by rw [← hwA];exact (bx_new 94 (ptr q) rfl hz).alloc _
  have B2:Bx wA Z (w.heap.size+1) 3 (num i):=by rw [← hwA];exact bx_new 3 (num i) (sz_alloc w _) (z_alloc hz)
  have H0:Hid (RsI w0 wA Z q g dv lv dm C K B X m (.func (.func 106) #[] #[ptr w.heap.size,ptr (w.heap.size+1)]) wA) :=
    Lib.hid ⟨Z,Y,fv,tv,ov,[],N,rs,tops,[],some (.form i),B0,MM.Far.refl _ _,Yto.refl _ _,h.to FA,.form B1 B2,hgo,hm,hF,fun o ho=>absurd ho (by simp),fun p e=>by
      injection e with e;subst e;exact ⟨hi,ht,fun o ho=>absurd ho (by simp)⟩,(fun e=>nomatch e),rfl,⟨fun r hr=>absurd hr (by simp),Nat.zero_le _⟩,hN⟩
  have HFA:=Lib.hid FA;have HB1:=Lib.hid B1;have HB:=Lib.hid hB;have HL:=Lib.hid L;clear h hF hgo hm hB L B1 B2 FA hz hN ht;subst hwA;unfold num at *;unfold ptr at *;go_enter Tryz.func38,Tryz.ntmps38
  go_wp2;generalize (w.alloc (.cells #[.pointer (some ⟨q,0,none⟩)] 94)).alloc (.cells #[.int .i64 i] 3)=wA at *
  go_loopg [6] m (fun k v wr=>RsI w0 wA Z q g dv lv dm C K B X k v wr)
  case atStart=>exact H0.out
  case round =>
    obtain ⟨Z1,Y1,fv,tv,ov,R,N,rs,tops,os,nx,B0,hF1,hz1,hM,hN,hgo,hm,hFew,hG,hp,hnn,hO,hW,hK⟩:=hrel;have HM:=Lib.hid hM;have HF1:=Lib.hid hF1;have HZ1:=Lib.hid hz1;have HFew:=Lib.hid hFew;have HMm:=Lib.hid hm;have HG:=Lib.hid hG;have HO:=Lib.hid hO;have HW:=Lib.hid hW;have HK:=Lib.hid hK;have hne0:∀ W,(binOp .neq 141 .nilFunc .nilFunc).run Tryz.prog W = .ok (.bool false) W:=fun W=>by kernel_rfl
    cases nx with
    | none =>
      obtain rfl:os=[]:=hnn rfl;have hN2:u6 = .nilFunc:=hN;subst hN2;rw [goS_none] at hgo;injection hgo with hg;obtain rfl:R=[]:=hO;clear hF1 hz1 hM hm hFew hG hp hnn H0 hW hK;go_wp2;refine bodyPost_ret (v:=.tuple #[.int .i64 0,.int .i64 0]) (by simp [results,Tryz.results38,go_sem]) rfl ?_
      subst hg;exact ⟨rfl,(HFA.out.mono (fun b hb _=>by cases hb)).trans HF1.out (fun b hb _=>hb),Z1,Y1,fv,tv,ov,rs,⟨HZ1.out.sub,fun b hb=>(HZ1.out.new b hb).imp id (fun h=>Nat.le_trans HFA.out.size h)⟩,HM.out,rfl,⟨by have h1:=HFew.out.sum;have h2:=HMm.out;simp only [List.map_nil,List.length_nil] at h1 ⊢;omega,HFew.out.tops,HFew.out.head,HFew.out.tail⟩,HK.out⟩
    | some p =>
      obtain ⟨hTh,hT1,hHd⟩:=hp p rfl;have hRl:R.length < 1000000000:=by have h1:=hO.len;have h2:=hFew.sum;have:=HB.out;omega
      have hE:=hM.ev HL.out hK hW;obtain ⟨f0,cs,rfl,hcf,hC⟩:=part_ev hE hN hTh hRl;cases gk with
      | zero=>rw [goS_zero] at hgo;cases hgo
      | succ k =>
      rw [goS_succ] at hgo;have hnk:=ev_nk HL.out.gd hK R p hTh;obtain ⟨sn,N2,hsn⟩:∃ sn N2,evS C R N p=(sn,N2):=⟨_,_,rfl⟩
      rw [hsn] at hgo hC hnk;have HC:=Lib.hid hC;have HGO:=Lib.hid hgo;have HNK:=Lib.hid hnk;have hne:∀ W,(binOp .neq 141 (.func (.func f0) #[] cs) .nilFunc).run Tryz.prog W = .ok (.bool true) W:=fun W=>by kernel_rfl
      have HT1:=Lib.hid hT1;have HHD:=Lib.hid hHd;have HSIX:=Lib.hid (fun (f:Rf) (R':Rws) (ps:List Sp) (e:evS C R N p=(.mk f R' ps,N2))=>And.intro (ev_six HL.out.gd HL.out.fl hTh hW hRl e) (ev_th HL.out.gd hTh e));have HSN:=Lib.hid hsn;obtain ⟨wo,rfl⟩:∃ wo,wo=wr:=⟨_,rfl⟩
      clear hF1 hz1 hM hgo hm hFew hG hp hnn hN hC H0 hO hW hK hE hnk hTh hT1 hHd hRl hsn
      go_wp2_with (fail)
      refine HC.out.mono ?_
      rintro e w1 ⟨v,Y2,rfl,hY2,hF2,hS2,hI2⟩;have HM2:=Lib.hid (HM.out.eval hY2 hF2 hS2);have HZ2:=Lib.hid (evalZ HM.out.mc hY2);have HF2:=Lib.hid hF2;have HS2:=Lib.hid hS2;have HS:Hid (∀ b∈Y1,b∈Z1):=Lib.hid HM.out.mc.sub;clear hY2 hF2 hS2 HC hcf;have hbx1:w.heap.size∉Z1:=fun hm=>by
        rcases HZ1.out.new _ hm with h1 | h1
        · exact HB1.out.out h1
        · have:=HB1.out.lt;omega
      have hqZ:q∈Z1:=HS.out _ (Sc.qlt HM.out.sc);have hneq:¬ w.heap.size=q:=fun e=>hbx1 (e ▸ hqZ)
      have x0o:wo.cell? ⟨w.heap.size,0,none⟩=some (.pointer (some ⟨q,0,none⟩)):=(HF1.out.cell (p:=⟨w.heap.size,0,none⟩) HB1.out.lt HB1.out.out).trans HB1.out.at;have x01:=(HF2.out.cell (p:=⟨w.heap.size,0,none⟩) (MR.cell_lt x0o) (fun hm=>hbx1 (HS.out _ hm))).trans x0o;cases sn with
      | bad a e1 =>
        obtain ⟨rfl,hne1⟩:=hI2;unfold snV num badF
        go_upto_region 4 with fail
        have HRow:=MM.Row.new w1 145 [.int .i64 e1,.int .u8 0,.int .i64 a,.int .i64 0,.int .i64 0,.string emp,.slice none 0 0,.int .u64 0,.slice none 0 0,.slice none 0 0];have FB:=(MM.Far.refl [] w1).alloc (.cells #[.int .i64 e1,.int .u8 0,.int .i64 a,.int .i64 0,.int .i64 0,.string emp,.slice none 0 0,.int .u64 0,.slice none 0 0,.slice none 0 0] 145);replace HRow:MM.Row (w1.alloc (.cells #[.int .i64 e1,.int .u8 0,.int .i64 a,.int .i64 0,.int .i64 0,.string emp,.slice none 0 0,.int .u64 0,.slice none 0 0,.slice none 0 0] 145)) _ _ _:=HRow;generalize w1.alloc (.cells #[.int .i64 e1,.int .u8 0,.int .i64 a,.int .i64 0,.int .i64 0,.string emp,.slice none 0 0,.int .u64 0,.slice none 0 0,.slice none 0 0] 145)=W1 at *;obtain ⟨b,hb⟩:∃ b,w1.heap.size=b:=⟨_,rfl⟩
        rw [hb] at HRow ⊢;have n0:=HRow.at (i:=0) rfl;have n2:=HRow.at (i:=2) rfl;have HFB:=Lib.hid FB;clear HRow FB x0o x01
        go_upto_region 5 with fail
        go_region_held3 (fun w'=>w'.cell? ⟨b,0,none⟩=some (.int .i64 e1)∧w'.cell? ⟨b,2,none⟩=some (.int .i64 a)) (go_keep) (fail)
        go_wp2;refine bodyPost_ret (v:=.tuple #[.int .i64 a,.int .i64 e1]) (by simp [results,Tryz.results38,go_sem]) rfl ?_
        have hg:some (Except.error (a,e1,N2))=some X:=HGO.out;injection hg with hg;subst hg;refine ⟨rfl,?_,_,_,_,_,(⟨HZ1.out.sub,fun b hb=>(HZ1.out.new b hb).imp id (fun h=>Nat.le_trans HFA.out.size h)⟩:Yto w Z Z1).of HZ2.out (Nat.le_trans HFA.out.size HF1.out.size),(HM2.out.sc.to HFB.out).to ((MM.Far.refl [] W1).drew),fun b hb=>List.mem_append_left _ hb⟩
        have h1:=(HFA.out.mono (S':=Z) (fun b hb _=>by cases hb)).trans HF1.out (fun b hb _=>hb);exact ((far_y h1 ⟨HZ1.out.sub,fun b hb=>(HZ1.out.new b hb).imp id (fun h=>Nat.le_trans HFA.out.size h)⟩ HF2.out (fun b hb _=>HS.out b hb)).trans HFB.out (by simp)).drew
      | mk f R' ps =>
        obtain ⟨hfl,parts,vs,rfl,hSl,hIs⟩:=hI2;obtain ⟨A5,d5,rfl,-⟩:=hSl.form;obtain ⟨na,hna⟩:∃ na,vs.length=na:=⟨_,rfl⟩
        rw [hna] at hSl ⊢;obtain ⟨oA,oc,rfl⟩:=own_sl4 w0 HM2.out.mc.op;obtain ⟨⟨h6,hn6,hW2,hps⟩,hth2⟩:=HSIX.out f R' ps HSN.out;have HM3:Hid (Sy w0 w1 (Y2++Z1) Y2 q g dv lv dm (ownC C) R' N2 fv tv (.slice oA os.length oc) (.slice oA os.length oc) rs tops os []):=HM2;have HROP:=Lib.hid (RO.push HO.out h6 hn6 (ps:=ps));have HFP:=Lib.hid (HFew.out.push HT1.out HHD.out f hps);have HW2:=Lib.hid hW2;have HGS:Hid (GoodS C (⟨{ f with l:=[] },ps⟩::os.map (·.o))):=Lib.hid (fun o ho=>by
          rcases List.mem_cons.1 ho with rfl | ho
          · exact hth2
          · exact HG.out o ho)
        have hos:os.length≤900000000:=by have h1:=HFew.out.sum;have h2:=HMm.out;have h3:=HB.out;simp only [List.length_map] at h1;omega
        unfold snV num
        go_upto_region 4 with fail
        have HRow:MM.Row (w1.alloc (.cells #[.int .i64 0,.int .u8 f.kind,.int .i64 f.at_,.int .i64 f.n,.int .i64 f.a,.string f.s,.slice none 0 0,.int .u64 f.w,.slice none 0 0,.slice A5 na d5] 145)) w1.heap.size 145 [.int .i64 0,.int .u8 f.kind,.int .i64 f.at_,.int .i64 f.n,.int .i64 f.a,.string f.s,.slice none 0 0,.int .u64 f.w,.slice none 0 0,.slice A5 na d5]:=MM.Row.new w1 145 [.int .i64 0,.int .u8 f.kind,.int .i64 f.at_,.int .i64 f.n,.int .i64 f.a,.string f.s,.slice none 0 0,.int .u64 f.w,.slice none 0 0,.slice A5 na d5];have FB:=(MM.Far.refl [] w1).alloc (.cells #[.int .i64 0,.int .u8 f.kind,.int .i64 f.at_,.int .i64 f.n,.int .i64 f.a,.string f.s,.slice none 0 0,.int .u64 f.w,.slice none 0 0,.slice A5 na d5] 145);generalize w1.alloc (.cells #[.int .i64 0,.int .u8 f.kind,.int .i64 f.at_,.int .i64 f.n,.int .i64 f.a,.string f.s,.slice none 0 0,.int .u64 f.w,.slice none 0 0,.slice A5 na d5] 145)=W1 at *;obtain ⟨b,hb⟩:∃ b,w1.heap.size=b:=⟨_,rfl⟩
        rw [hb] at HRow ⊢;have n0:=HRow.at (i:=0) rfl;have n1:=HRow.at (i:=1) rfl;have n2:=HRow.at (i:=2) rfl;have n3:=HRow.at (i:=3) rfl;have n4:=HRow.at (i:=4) rfl;have n5:=HRow.at (i:=5) rfl;have n6:=HRow.at (i:=6) rfl;have n7:=HRow.at (i:=7) rfl;have n8:=HRow.at (i:=8) rfl;have n9:=HRow.at (i:=9) rfl;have HM4:=Lib.hid (HM3.out.to FB);have HP:Hid (∃ vs,Sl W1 (Y2++Z1) (.slice A5 na d5) vs∧Ips W1 (Y2++Z1) q vs ps):=Lib.hid ⟨vs,hSl.far FB (by simp),hIs.far FB (by simp)⟩;have x0:=far_cell FB x01;obtain ⟨bv,im,hh⟩:=HM4.out.head;have x9:W1.cell? ⟨q,9,none⟩=some (.slice oA os.length oc):=hh.at (i:=9) rfl;have f9:=hh.frozen 9;have HHH:=Lib.hid hh;have x0a:=far_cell ((MM.Far.refl [] W1).alloc (.cells #[.int .i64 0,.int .u8 f.kind,.int .i64 f.at_,.int .i64 f.n,.int .i64 f.a,.string f.s,.slice none 0 0,.int .u64 f.w,.slice none 0 0,.slice A5 na d5] 145)) x0;have x9a:=far_cell ((MM.Far.refl [] W1).alloc (.cells #[.int .i64 0,.int .u8 f.kind,.int .i64 f.at_,.int .i64 f.n,.int .i64 f.a,.string f.s,.slice none 0 0,.int .u64 f.w,.slice none 0 0,.slice A5 na d5] 145)) x9;have HFB:=Lib.hid FB;clear HRow FB x0o x01 hh hSl hIs hfl h6 hn6 hW2 hps hth2 HM2 HM3 hna
        go_upto_region 6 with fail
        go_cut [] from 11 to 35 (fun wx=>Cut3 w0 wA wo Z q g dv lv dm fv tv C R' N2 rs tops (os.length+1) ((⟨⟨{ f with l:=[] },ps⟩,.slice none 0 0,.slice A5 na d5⟩:Pz)::os) w.heap.size wx)
        case first =>
          go_region_law (
            refine MO.step_append ?_ (.tmp 27) (.tmp 29) 99 ?_ w0.heap.size 145 _ 10 136 plansZ_slice planZ_info rfl (by omega) (.slice oA os.length oc) os.length (pzC os.reverse) ?_ ?_ (some ⟨W1.heap.size,0,none⟩) 1 1 (pzL ⟨⟨{ f with l:=[] },ps⟩,.slice none 0 0,.slice A5 na d5⟩) ?_ rfl (fun h=>by cases h) [] ?_ ?_ ?_ ?_ ?_ ?_
            · rfl
            · rfl
            · rfl
            · exact HM4.out.mc.op.alloc _
            · rfl
            · exact (MM.Src.row (MM.Row.new W1 145 (pzL ⟨⟨{ f with l:=[] },ps⟩,.slice none 0 0,.slice A5 na d5⟩)) (by simp) _ (fun j u hu=>hu))
            · exact pz_one ⟨⟨{ f with l:=[] },ps⟩,.slice none 0 0,.slice A5 na d5⟩ rfl rfl
            · simp only [maxLen];omega
            · omega
            · have:=HM4.out.far.size;simp;omega
            intro v2 w2 hv2 hg2 hat2;obtain ⟨A2,c2x,rfl⟩:=own_sl4 w0 hv2;have hat3:(Value.slice A2 (os.length+1) c2x).ownBlock=(Value.slice oA os.length oc).ownBlock∨∃ b,(Value.slice A2 (os.length+1) c2x).ownBlock=some b∧W1.heap.size≤b:=hat2.imp id (fun e=>⟨_,e,((MM.Far.refl [] W1).alloc _).drew.size⟩);have F2:MM.Far (Value.slice oA os.length oc).ownBlock.toList W1 w2:=RC6.far_app hg2;have HH2:Hid (MM.Row w2 q 101 _):=Lib.hid (HHH.out.far F2 (fun hm=>MM.own_row_ne HM4.out.mc.op HHH.out (by decide) (by simpa using hm)));have d9W:=HH2.out.at (i:=9) rfl;have e9W:=HH2.out.frozen 9;have hbZ:w.heap.size∉(Value.slice oA os.length oc).ownBlock.toList:=fun hm=>by
              have h1:=HM4.out.mc.zo _ (by simpa using hm)
              rcases List.mem_append.1 h1.1 with h2 | h2
              · exact h1.2 h2
              · exact hbx1 h2
            have x2:=(F2.cell (p:=⟨w.heap.size,0,none⟩) (MR.cell_lt x0) hbZ).trans x0;have HN:=Lib.hid (HM4.out.push (w1:=w2) (⟨⟨{ f with l:=[] },ps⟩,.slice none 0 0,.slice A5 na d5⟩:Pz) rfl rfl HP.out hv2 F2 hat3);have HA2:=Lib.hid (newZ (v':=.slice A2 (os.length+1) c2x) HM4.out.mc.zo hat3);have HX2:=Lib.hid F2;clear hg2 hv2 hat2 hat3 F2)
          all_goals
            go_wp2_with fail
            go_meet
            have g1:MM.Far Z1 wo w2:=(((HF2.out.mono (fun b hb _=>HS.out b hb)).trans HFB.out (by simp)).trans HX2.out (fun x hx hl=>by
              have h1:=HM4.out.mc.zo x (by simpa using hx)
              rcases List.mem_append.1 h1.1 with h2 | h2
              · exact absurd h2 h1.2
              · exact h2))
            have hy:MM.Far Z wA (w2.setCell ⟨q,9,none⟩ (.slice A2 (os.length+1) c2x)):=far_y HF1.out HZ1.out (g1.trans (cellF w2 q 9 (.slice A2 (os.length+1) c2x)) (fun x hx _=>by simp at hx;subst hx;exact hqZ)) (fun x hx _=>hx);refine ⟨_,_,A2,c2x,hy,(HZ1.out.of HZ2.out HF1.out.size).of HA2.out ?_,HN.out,?_,?_⟩
            · exact Nat.le_trans HF1.out.size (Nat.le_trans HF2.out.size HFB.out.size)
            · exact ((cellF w2 q 9 (.slice A2 (os.length+1) c2x)).cell (p:=⟨w.heap.size,0,none⟩) (MR.cell_lt x2) (by simpa using hneq)).trans x2
            · exact Nat.le_trans g1.size (cellF w2 q 9 (.slice A2 (os.length+1) c2x)).size
        case rest =>
          obtain ⟨Z3,Y3,A2,c2x,hF3,hz3,hM3,y0,hsz⟩:=hcut;have HGON:=Lib.hid (goOn_any (B:=B0+1) (by have:=HMm.out;have:=HB.out;omega) hM3 HFP.out HROP.out HW2.out);have HF3:=Lib.hid hF3;have HZ3:=Lib.hid hz3;clear hF3 hz3 hM3 x0 x0a x9 x9a f9 n0 n1 n2 n3 n4 n5 n6 n7 n8 n9 HP HHH
          go_wp2_with (first
            | (go_at_call 66;(with_reducible refine HGON.out.mono ?_);rintro e w7 ⟨v7,Z7,Y7,fv7,tv7,ov7,rs7,os7,rfl,hF7,hz7,hM7,hr7,ho7,hn7,hf7,hO7,hW7⟩;have HF7:=Lib.hid hF7;have HZ7:=Lib.hid hz7;have HM7:=Lib.hid hM7;have HR7:=Lib.hid hr7;have HO7:=Lib.hid ho7;have HN7:=Lib.hid hn7;have HFW7:=Lib.hid hf7;have HRO7:=Lib.hid hO7;have HRW7:=Lib.hid hW7;clear hF7 hz7 hM7 hr7 ho7 hn7 hf7 hO7 hW7))
          go_roundg k
          case measure=>omega
          case rel =>
            have hg:goS C k N2 (goOnS (rs.map (·.1)) tops R' (⟨{ f with l:=[] },ps⟩::os.map (·.o)))=some X:=HGO.out;have hgd:=goOnS_good C _ (⟨{ f with l:=[] },ps⟩::os.map (·.o)) rfl (rs.map (·.1)) tops R' HGS.out;have hen:=goOnS_end _ (⟨{ f with l:=[] },ps⟩::os.map (·.o)) rfl (rs.map (·.1)) tops R';have hR7:=HR7.out;have hO7:=HO7.out;have hN7:=HN7.out;have hM7:=HM7.out;have hf7:=HFW7.out;have hro7:=HRO7.out;have hrw7:=HRW7.out;simp only [List.map_cons] at hR7 hO7 hN7 hM7 hf7 hro7 hrw7
            obtain ⟨G,hG2⟩:∃ G,goOnS (rs.map (·.1)) tops R' (⟨{ f with l:=[] },ps⟩::os.map (·.o))=G:=⟨_,rfl⟩
            rw [hG2] at hg hgd hen hR7 hO7 hN7 hM7 hf7 hro7 hrw7;obtain ⟨r1,r2,r3,r4,r5⟩:=G;simp only at hgd hen hR7 hO7 hN7 hM7 hf7 hro7 hrw7
            subst hR7 hO7;refine ⟨Z7,Y7,fv7,tv7,ov7,r3,N2,rs7,r2,os7,r5,B0+1,far_y HF3.out HZ3.out HF7.out (fun x hx _=>hx),HZ3.out.of HZ7.out HF3.out.size,hM7,hN7,hg,by have:=HMm.out;omega,hf7,hgd,fun p e=>?_,fun e=>List.map_eq_nil_iff.1 (hen.1 e),hro7,hrw7,HNK.out⟩
            obtain ⟨o,os8,e8,hlt,hmem⟩:=hen.2 p e;have ht:=hf7.tops;rw [e8] at ht ⊢;refine ⟨hgd o (by rw [e8];exact List.mem_cons_self ..) p hmem,by simp at ht;omega,fun x hx=>?_⟩
            simp at hx
            exact hx ▸ hlt
end
end SM
end Go.Proofs.YtkcgbhlnkfogeaaGreatDoor
