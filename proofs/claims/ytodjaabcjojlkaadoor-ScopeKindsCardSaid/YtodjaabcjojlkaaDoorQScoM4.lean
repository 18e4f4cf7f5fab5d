/-
  Several texts in one: ScoC18,ScoM4.
-/
import Derived.Test.YtodjaabcjojlkaaDoorQScoC17
import Derived.Test.YtodjaabcjojlkaaDoorQScoM3
namespace Go.Proofs.YtodjaabcjojlkaaDoor
open Go.RowKit
set_option linter.unusedVariables false
namespace SM
open LX SX RW6 EX SC
open EW (Sl Bx ptr num strs bx_new z_alloc sz_alloc z_far z_drew made_list sl_new keep2 keep3 keep4 ints_len int_head NdR FmR Bx.cons)
section
variable {w0 w w1 W:World} {Y Z:List Nat} {q g:Nat} {h:Hd} {C:Cx} {K:List ByteArray} {R:Rws} {N:List ByteArray}
set_option maxHeartbeats 4000000 in
set_option maxRecDepth 20000 in
theorem form_call (E:Ev w0 w Y Z q g h C K R N) {i bx bi:Nat} (hi:i < C.fs.length) (h1:Bx w Z bx 69 (ptr q)) (h2:Bx w Z bi 3 (num i)) (hR:R.length < 1000000000) :
    Calls Tryd.prog 51 #[ptr bx,ptr bi] w (EvQ w0 w Y Z q g h C (rA R (evF C R N (fmAt C.fs i)).1) (evF C R N (fmAt C.fs i)).2 (evF C R N (fmAt C.fs i)).1):=by
  obtain ⟨k,hk⟩:∃ k,w.heap.size=k:=⟨_,rfl⟩
  obtain ⟨W,hW⟩:∃ W,w.alloc zS=W:=⟨_,rfl⟩
  have F0:MM.Far [] w W:=by rw [← hW];exact (MM.Far.refl [] w).alloc _
  have HB0:Hid (SnBox W k):=Lib.hid (by rw [← hW];exact SnBox.new hk);have E1:=E.box F0.drew (by omega:w.heap.size≤k) HB0.out.lt;obtain ⟨fb,fo,P0,pc0,L0,lc0,fc,hfv,d0,d1,d2,d3,d4,d5,d6,d7,hP0,hL0,hfbz⟩:=E1.formAt hi;replace d0:W.cell? ⟨fb,fo+i*8,none⟩=_:=d0;replace d1:W.cell? ⟨fb,fo+i*8+1,none⟩=_:=d1;replace d2:W.cell? ⟨fb,fo+i*8+2,none⟩=_:=d2;replace d3:W.cell? ⟨fb,fo+i*8+3,none⟩=_:=d3;replace d4:W.cell? ⟨fb,fo+i*8+4,none⟩=_:=d4;replace d5:W.cell? ⟨fb,fo+i*8+5,none⟩=_:=d5;replace d6:W.cell? ⟨fb,fo+i*8+6,none⟩=_:=d6;replace d7:W.cell? ⟨fb,fo+i*8+7,none⟩=_:=d7;obtain ⟨bv,im,hh⟩:=(E.sc.to F0).head;have x1:W.cell? ⟨q,1,none⟩=some h.lv:=hh.at (i:=1) rfl;rw [hfv] at x1;have HC:=Lib.hid (plan_any E1 hi hL0 hP0 hR);obtain ⟨fl,hfl⟩:∃ fl,C.fs.length=fl:=⟨_,rfl⟩
  have hX1:∀ (w1:World) (Y1:List Nat) {R1:Rws} {N1:List ByteArray},Sc w0 w1 Y1 q g h (ownC C) R1 N1→w1.cell? ⟨q,1,none⟩=some (.slice (some ⟨fb,fo,none⟩) fl fc):=fun w1 Y1 R1 N1 s=>by
    obtain ⟨bv',im',hh'⟩:=s.head;have:w1.cell? ⟨q,1,none⟩=some h.lv:=hh'.at (i:=1) rfl;rw [this,hfv,hfl]
  have HX1:=Lib.hid @hX1;rw [hfl] at x1 hi;obtain ⟨sn,hsn⟩:∃ sn,(evF C R N (fmAt C.fs i)).1=sn:=⟨_,rfl⟩
  obtain ⟨N2,hN2⟩:∃ N2,(evF C R N (fmAt C.fs i)).2=N2:=⟨_,rfl⟩
  rw [hsn,hN2] at HC ⊢;clear hsn hN2;generalize rA R sn=R2 at *;generalize fmAt C.fs i=f0 at *;obtain ⟨np0,hnp0⟩:∃ np0,f0.p.length=np0:=⟨_,rfl⟩
  obtain ⟨m0,hm0⟩:∃ m0,f0.l.length=m0:=⟨_,rfl⟩
  rw [hnp0] at d5 HC;rw [hm0] at d7 HC;unfold fmV at HC;have hj0:(0:Int)≤(i:Int):=by omega
  have hj1:(i:Int) < (fl:Int):=by omega
  have g1:=farC F0 h1.at;have g2:=farC F0 h2.at;have n1:=World.new_ne w ⟨bx,0,none⟩ h1.at;have n2:=World.new_ne w ⟨bi,0,none⟩ h2.at;have hqY:=E.sc.qlt;have n3:w.heap.size≠q:=fun e=>by have:=E.sc.eb.y _ hqY;omega
  have n4:w.heap.size≠fb:=fun e=>hfbz (by rw [← e,hk];exact List.mem_cons_self ..)
  have HBX:=Lib.hid (show bx∉Y from fun hm=>h1.out (E.sub _ hm));have HBI:=Lib.hid (show bi∉Y from fun hm=>h2.out (E.sub _ hm));have HFB:=Lib.hid (show fb∉Y from fun hm=>hfbz (List.mem_cons_of_mem _ (E.sub _ hm)));have HEB:=Lib.hid E.sc.eb;have HB:=Lib.hid (HB0.out.far ((MM.Far.refl [] W).drew) (by simp));have HBW:Hid (k < W.drew.heap.size):=Lib.hid HB0.out.lt;have HF:=Lib.hid F0.drew;have HK:=Lib.hid hk;clear E E1 F0 h1 h2 HB0 hfv hP0 hL0 hfbz hh hX1 hnp0 hm0 hqY hfl;subst hW;subst hk;unfold zS num at *;unfold ptr at *;go_enter Tryd.func51,Tryd.ntmps51
  go_wp2;generalize w.alloc (.cells #[.int .i64 0,.int .u8 0,.int .i64 0,.int .i64 0,.int .i64 0,.string ⟨#[]⟩,.slice none 0 0,.int .u64 0,.slice none 0 0,.slice none 0 0] 100)=W at *
  go_region_held3 (fun w'=>w'.cell? ⟨bx,0,none⟩=some (.pointer (some ⟨q,0,none⟩))∧w'.cell? ⟨bi,0,none⟩=some (.int .i64 (i:Nat))∧w'.cell? ⟨q,1,none⟩=some (.slice (some ⟨fb,fo,none⟩) fl fc)∧w'.cell? ⟨fb,fo+i*8,none⟩=some (.int .u8 f0.kind)∧w'.cell? ⟨fb,fo+i*8+1,none⟩=some (.int .i64 f0.at_)∧w'.cell? ⟨fb,fo+i*8+2,none⟩=some (.int .i64 f0.n)∧w'.cell? ⟨fb,fo+i*8+3,none⟩=some (.int .i64 0)∧w'.cell? ⟨fb,fo+i*8+4,none⟩=some (.string f0.s)∧w'.cell? ⟨fb,fo+i*8+5,none⟩=some (.slice P0 np0 pc0)∧w'.cell? ⟨fb,fo+i*8+6,none⟩=some (.int .u64 0)∧w'.cell? ⟨fb,fo+i*8+7,none⟩=some (.slice L0 m0 lc0)) (first | (with_reducible assumption) | go_keep) (first
    | (go_at_call 52;(with_reducible refine HC.out.mono ?_);rintro e w1 ⟨v,Y1,rfl,hY1,hF1,hS1,hI1⟩;obtain ⟨e1,f1,A1,m1,c1,rfl,hl1⟩:=hI1.form;have HY1:=Lib.hid hY1;have HF1:=Lib.hid hF1;have HS1:=Lib.hid hS1;have HI1:=Lib.hid hI1;have HB1:=Lib.hid (HB.out.far hF1 (fun hm=>by have:=HEB.out.y _ hm;omega));have hk0:W.drew.cell? ⟨bx,0,none⟩=some (.pointer (some ⟨q,0,none⟩))∧W.drew.cell? ⟨bi,0,none⟩=some (.int .i64 (i:Nat))∧W.drew.cell? ⟨q,1,none⟩=some (.slice (some ⟨fb,fo,none⟩) fl fc)∧W.drew.cell? ⟨fb,fo+i*8,none⟩=some (.int .u8 f0.kind)∧W.drew.cell? ⟨fb,fo+i*8+1,none⟩=some (.int .i64 f0.at_)∧W.drew.cell? ⟨fb,fo+i*8+2,none⟩=some (.int .i64 f0.n)∧W.drew.cell? ⟨fb,fo+i*8+3,none⟩=some (.int .i64 0)∧W.drew.cell? ⟨fb,fo+i*8+4,none⟩=some (.string f0.s)∧W.drew.cell? ⟨fb,fo+i*8+5,none⟩=some (.slice P0 np0 pc0)∧W.drew.cell? ⟨fb,fo+i*8+6,none⟩=some (.int .u64 0)∧W.drew.cell? ⟨fb,fo+i*8+7,none⟩=some (.slice L0 m0 lc0):=by { assumption };have hk1:w1.cell? ⟨bx,0,none⟩=some (.pointer (some ⟨q,0,none⟩))∧w1.cell? ⟨bi,0,none⟩=some (.int .i64 (i:Nat))∧w1.cell? ⟨q,1,none⟩=some (.slice (some ⟨fb,fo,none⟩) fl fc)∧w1.cell? ⟨fb,fo+i*8,none⟩=some (.int .u8 f0.kind)∧w1.cell? ⟨fb,fo+i*8+1,none⟩=some (.int .i64 f0.at_)∧w1.cell? ⟨fb,fo+i*8+2,none⟩=some (.int .i64 f0.n)∧w1.cell? ⟨fb,fo+i*8+3,none⟩=some (.int .i64 0)∧w1.cell? ⟨fb,fo+i*8+4,none⟩=some (.string f0.s)∧w1.cell? ⟨fb,fo+i*8+5,none⟩=some (.slice P0 np0 pc0)∧w1.cell? ⟨fb,fo+i*8+6,none⟩=some (.int .u64 0)∧w1.cell? ⟨fb,fo+i*8+7,none⟩=some (.slice L0 m0 lc0):=⟨farY hF1 hk0.1 HBX.out,farY hF1 hk0.2.1 HBI.out,HX1.out _ _ hS1,farY hF1 hk0.2.2.2.1 HFB.out,farY hF1 hk0.2.2.2.2.1 HFB.out,farY hF1 hk0.2.2.2.2.2.1 HFB.out,farY hF1 hk0.2.2.2.2.2.2.1 HFB.out,farY hF1 hk0.2.2.2.2.2.2.2.1 HFB.out,farY hF1 hk0.2.2.2.2.2.2.2.2.1 HFB.out,farY hF1 hk0.2.2.2.2.2.2.2.2.2.1 HFB.out,farY hF1 hk0.2.2.2.2.2.2.2.2.2.2 HFB.out⟩;clear hY1 hF1 hS1 hI1;obtain ⟨v0,v1,v2,v3,v4,v5,v6,v7,v8,v9,y0,y1,y2,y3,y4,y5,y6,y7,y8,y9,hfz⟩:=HB1.out.cells;obtain ⟨fk,fa,fn,fA,fs,fw,fl⟩:=f1;simp only at hl1;subst hl1;unfold snV num))
  go_wp2;exact fin_ev rfl rfl rfl HEB.out HF.out (by omega) HBW.out HY1.out HF1.out HS1.out HB1.out HI1.out
theorem part_ev (E:Ev w0 w Y Z q g h C K R N) {v:Value} {p:Sp} (hI:Ip w Z q v p) (ht:ThS C p) (hR:R.length < 1000000000) :
    ∃ f cs,v = .func (.func f) #[] cs∧(∀ W,(callFunc f cs).run Tryd.prog W = .ok (.enter f cs) W)∧Calls Tryd.prog f cs w (EvQ w0 w Y Z q g h C (rA R (evS C R N p).1) (evS C R N p).2 (evS C R N p).1):=by
  cases hI with
  | form h1 h2=>exact ⟨_,_,rfl,fun W=>by kernel_rfl,form_call E ht h1 h2 hR⟩
  | @qd bx ba bl a v i l h1 h2 h3 h4 =>
    refine ⟨_,_,rfl,fun W=>by kernel_rfl,?_⟩
    show Calls _ _ _ _ (EvQ w0 w Y Z q g h C (rA R (SC.quo C.ns R N a i).1) (SC.quo C.ns R N a i).2 (SC.quo C.ns R N a i).1)
    rw [rA_quo];exact qd_call E ht.2 h1 h2 h3 h4
  | @ql bx ba bl a v i l h1 h2 h3 h4 =>
    refine ⟨_,_,rfl,fun W=>by kernel_rfl,?_⟩
    show Calls _ _ _ _ (EvQ w0 w Y Z q g h C (rA R (quoL R a l)) N (quoL R a l))
    rw [rA_quoL];exact ql_call E h1 h2 h3 h4
end
end SM
end Go.Proofs.YtodjaabcjojlkaaDoor
namespace Go.Proofs.YtodjaabcjojlkaaDoor
open Go.RowKit
set_option linter.unusedVariables false
namespace SM
open LX SX RW6 EX SC
theorem RO.len:∀ {os:List Oq} {R:Rws},RO os R→R.length≤os.length:=by
  intro os;induction os with
  | nil=>intro R h;rw [show R=[] from h];exact Nat.le_refl _
  | cons o os ih =>
    intro R h;unfold RO at h;split at h
    · obtain ⟨r,R',rfl,_,h⟩:=h;have:=ih h;simp;omega
    · have:=ih h;simp;omega
theorem ev_six {C:Cx} {K:List ByteArray} (h:Gd C K) (hfl:∀ i,(fmAt C.fs i).l.length≤100000) {R R':Rws} {N N':List ByteArray} {p:Sp} {f:Rf} {ps:List Sp} (hp:ThS C p) (hR:RwOk R) (hlt:R.length < 1000000000) (e:evS C R N p=(.mk f R' ps,N')) :
    (f.kind=6→∃ r,R'=r::R∧f.n=(r.length:Nat))∧(f.kind≠6→R'=R)∧RwOk R'∧ps.length≤100000:=by
  have fin:∀ {x:Rf} {qs:List Sp} {M:List ByteArray},((.mk x R qs,M):Sn × List ByteArray)=(.mk f R' ps,N')→x.kind≠6→qs.length≤100000→(f.kind=6→∃ r,R'=r::R∧f.n=(r.length:Nat))∧(f.kind≠6→R'=R)∧RwOk R'∧ps.length≤100000:=by
    intro x qs M e hk hq;simp only [Prod.mk.injEq,Sn.mk.injEq] at e
    obtain ⟨⟨rfl,rfl,rfl⟩,-⟩:=e;exact ⟨fun h6=>absurd h6 hk,fun _=>rfl,hR,hq⟩
  have n6:∀ {k:Int},k≠6→k≠6:=id;have hql:∀ a l (M:List ByteArray),(quoL R a l,M)=(.mk f R' ps,N')→(f.kind=6→∃ r,R'=r::R∧f.n=(r.length:Nat))∧(f.kind≠6→R'=R)∧RwOk R'∧ps.length≤100000:=by
    intro a l M e;cases l with
    | nil=>exact fin e (show (13:Int)≠6 by decide) (by simp)
    | cons i l=>exact fin e (show (12:Int)≠6 by decide) (by simp)
  have hq:∀ a i,SC.quo C.ns R N a i=(.mk f R' ps,N')→(f.kind=6→∃ r,R'=r::R∧f.n=(r.length:Nat))∧(f.kind≠6→R'=R)∧RwOk R'∧ps.length≤100000:=by
    intro a i e;unfold SC.quo at e;split at e
    · exact fin e (show (13:Int)≠6 by decide) (by simp)
    split at e
    · exact fin e (show (13:Int)≠6 by decide) (by simp)
    split at e
    · exact fin e (show (13:Int)≠6 by decide) (by simp)
    · exact hql _ _ _ e
  cases p with
  | qd a i=>exact hq a i e
  | ql a l=>exact hql a l N e
  | form i =>
    simp only [evS] at e
    have hgf:=h.form i hp;have hl:=hfl i;generalize fmAt C.fs i=g at e hgf hl;have hlm:(g.l.map Sp.form).length≤100000:=by rw [List.length_map];exact hl
    unfold evF at e;split at e
    · exact fin e (show (13:Int)≠6 by decide) (by simp)
    split at e
    · exact fin e (show (13:Int)≠6 by decide) (by simp)
    split at e
    · exact hq _ _ e
    split at e
    · unfold nameP at e;split at e
      · exact fin e (show (11:Int)≠6 by decide) (by simp)
      · split at e
        · exact fin e (show (4:Int)≠6 by decide) (by simp)
        · cases e
    split at e
    · simp only [Prod.mk.injEq,Sn.mk.injEq] at e
      obtain ⟨⟨rfl,rfl,rfl⟩,-⟩:=e;refine ⟨fun _=>⟨g.p,rfl,rfl⟩,fun h6=>absurd rfl h6,⟨fun r hr=>?_,by rw [List.length_cons];omega⟩,hlm⟩
      rcases List.mem_cons.1 hr with rfl | hr
      · exact ⟨hgf.names.nodup,hgf.names.few⟩
      · exact hR.1 r hr
    split at e
    · unfold setP' at e;split at e
      · exact fin e (show (7:Int)≠6 by decide) hlm
      · split at e
        · exact fin e (show (7:Int)≠6 by decide) hlm
        · cases e
    split at e
    · unfold defP at e;split at e
      · cases e
      · exact fin e (show (9:Int)≠6 by decide) hlm
    split at e
    · unfold callP at e;split at e
      · split at e
        · cases e
        · exact fin e (show (12:Int)≠6 by decide) (by rw [List.length_map,List.length_drop];omega)
      · exact fin e (show (10:Int)≠6 by decide) hlm
    · rename_i h6 _ _ _;exact fin e h6 hlm
theorem RO.push {os:List Oq} {R R':Rws} {f:Rf} {ps:List Sp} (h:RO os R) (h6:f.kind=6→∃ r,R'=r::R∧f.n=(r.length:Nat)) (hn:f.kind≠6→R'=R):RO (⟨{ f with l:=[] },ps⟩::os) R':=by
  unfold RO;by_cases k:f.kind=6
  · rw [if_pos k];obtain ⟨r,rfl,e⟩:=h6 k;exact ⟨r,R,rfl,e,h⟩
  · rw [if_neg k,hn k];exact h
theorem goOnS_end:∀ (n:Nat) (op:List Oq),op.length=n→∀ (row:List Rf) (tops:List Nat) (R:Rws),((goOnS row tops R op).next=none→(goOnS row tops R op).op=[])∧(∀ p,(goOnS row tops R op).next=some p→∃ o os,(goOnS row tops R op).op=o::os∧o.f.l.length < o.ps.length∧p∈o.ps):=by
  intro n;induction n with
  | zero =>
    intro op hn row tops R;obtain rfl:=List.eq_nil_of_length_eq_zero hn;rw [goOnS_nil];exact ⟨fun _=>rfl,fun p e=>by cases e⟩
  | succ n ih =>
    intro op hn row tops R;cases op with
    | nil=>cases hn
    | cons o os =>
      by_cases hlt:o.f.l.length < o.ps.length
      · rw [goOnS_next _ _ _ _ _ hlt];exact ⟨fun e=>(by cases e),fun p e=>⟨o,os,rfl,hlt,by injection e with e;rw [← e];exact List.getElem_mem hlt⟩⟩
      · rw [goOnS_fin _ _ _ _ _ hlt];cases os with
        | nil=>exact ⟨fun _=>rfl,fun p e=>by cases e⟩
        | cons o2 os2=>exact ih (o2.add row.length::os2) (by simpa using hn) _ _ _
def GoodS (C:Cx) (op:List Oq):Prop:=∀ o∈op,∀ p∈o.ps,ThS C p
theorem goOnS_good (C:Cx):∀ (n:Nat) (op:List Oq),op.length=n→∀ (row:List Rf) (tops:List Nat) (R:Rws),GoodS C op→GoodS C (goOnS row tops R op).op:=by
  intro n;induction n with
  | zero =>
    intro op hn row tops R h;obtain rfl:=List.eq_nil_of_length_eq_zero hn;rw [goOnS_nil];exact h
  | succ n ih =>
    intro op hn row tops R h;cases op with
    | nil=>cases hn
    | cons o os =>
      by_cases hlt:o.f.l.length < o.ps.length
      · rw [goOnS_next _ _ _ _ _ hlt];exact h
      · rw [goOnS_fin _ _ _ _ _ hlt];cases os with
        | nil=>exact fun o ho=>by cases ho
        | cons o2 os2 =>
          refine ih (o2.add row.length::os2) (by simpa using hn) _ _ _ (fun x hx=>?_)
          rcases List.mem_cons.1 hx with rfl | hx
          · exact h o2 (by simp)
          · exact h x (by simp [hx])
theorem FewS.push {B:Nat} {row:List Rf} {tops:List Nat} {os:List Oq} (h:FewS B row tops os) (ht:tops.length+1≤100000) (hh:∀ o∈os.head?,o.f.l.length < o.ps.length) (f:Rf) {ps:List Sp} (hp:ps.length≤100000):FewS (B+1) row tops (⟨{ f with l:=[] },ps⟩::os):=by
  refine ⟨by have:=h.sum;simp;omega,by simp;omega,fun x hx=>?_,fun x hx=>?_⟩
  · rcases List.mem_cons.1 hx with rfl | hx
    · exact ⟨Nat.zero_le _,hp⟩
    · exact h.head x hx
  · cases os with
    | nil=>cases hx
    | cons o os =>
      rcases List.mem_cons.1 hx with rfl | hx
      · exact hh x rfl
      · exact h.tail x hx
end SM
end Go.Proofs.YtodjaabcjojlkaaDoor
