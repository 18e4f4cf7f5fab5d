/-
  Contracts of layer 12's code: the steps of a form. Conditions: sizes.
-/
import Derived.Test.YtehgmmbdlnginaaGreatDoorQGenC8
namespace Go.Proofs.YtehgmmbdlnginaaGreatDoor
open Go.RowKit
set_option linter.unusedVariables false
namespace GW
open LX SX RW6 EX KP SC GP
open EW (Sl Bx)
theorem keep5 {w w':World} {p1 p2 p3 p4 p5:Addr} {v1 v2 v3 v4 v5:Value} (f:MM.Far [] w w') (h:w.cell? p1=some v1∧w.cell? p2=some v2∧w.cell? p3=some v3∧w.cell? p4=some v4∧w.cell? p5=some v5):w'.cell? p1=some v1∧w'.cell? p2=some v2∧w'.cell? p3=some v3∧w'.cell? p4=some v4∧w'.cell? p5=some v5:=⟨far_cell f h.1 (MR.cell_lt h.1),keep4 f h.2⟩
theorem keep6 {w w':World} {p1 p2 p3 p4 p5 p6:Addr} {v1 v2 v3 v4 v5 v6:Value} (f:MM.Far [] w w') (h:w.cell? p1=some v1∧w.cell? p2=some v2∧w.cell? p3=some v3∧w.cell? p4=some v4∧w.cell? p5=some v5∧w.cell? p6=some v6):w'.cell? p1=some v1∧w'.cell? p2=some v2∧w'.cell? p3=some v3∧w'.cell? p4=some v4∧w'.cell? p5=some v5∧w'.cell? p6=some v6:=⟨far_cell f h.1 (MR.cell_lt h.1),keep5 f h.2⟩
theorem keep7 {w w':World} {p1 p2 p3 p4 p5 p6 p7:Addr} {v1 v2 v3 v4 v5 v6 v7:Value} (f:MM.Far [] w w') (h:w.cell? p1=some v1∧w.cell? p2=some v2∧w.cell? p3=some v3∧w.cell? p4=some v4∧w.cell? p5=some v5∧w.cell? p6=some v6∧w.cell? p7=some v7):w'.cell? p1=some v1∧w'.cell? p2=some v2∧w'.cell? p3=some v3∧w'.cell? p4=some v4∧w'.cell? p5=some v5∧w'.cell? p6=some v6∧w'.cell? p7=some v7:=⟨far_cell f h.1 (MR.cell_lt h.1),keep6 f h.2⟩
theorem keep8 {w w':World} {p1 p2 p3 p4 p5 p6 p7 p8:Addr} {v1 v2 v3 v4 v5 v6 v7 v8:Value} (f:MM.Far [] w w') (h:w.cell? p1=some v1∧w.cell? p2=some v2∧w.cell? p3=some v3∧w.cell? p4=some v4∧w.cell? p5=some v5∧w.cell? p6=some v6∧w.cell? p7=some v7∧w.cell? p8=some v8):w'.cell? p1=some v1∧w'.cell? p2=some v2∧w'.cell? p3=some v3∧w'.cell? p4=some v4∧w'.cell? p5=some v5∧w'.cell? p6=some v6∧w'.cell? p7=some v7∧w'.cell? p8=some v8:=⟨far_cell f h.1 (MR.cell_lt h.1),keep7 f h.2⟩
theorem keep9 {w w':World} {p1 p2 p3 p4 p5 p6 p7 p8 p9:Addr} {v1 v2 v3 v4 v5 v6 v7 v8 v9:Value} (f:MM.Far [] w w') (h:w.cell? p1=some v1∧w.cell? p2=some v2∧w.cell? p3=some v3∧w.cell? p4=some v4∧w.cell? p5=some v5∧w.cell? p6=some v6∧w.cell? p7=some v7∧w.cell? p8=some v8∧w.cell? p9=some v9):w'.cell? p1=some v1∧w'.cell? p2=some v2∧w'.cell? p3=some v3∧w'.cell? p4=some v4∧w'.cell? p5=some v5∧w'.cell? p6=some v6∧w'.cell? p7=some v7∧w'.cell? p8=some v8∧w'.cell? p9=some v9:=⟨far_cell f h.1 (MR.cell_lt h.1),keep8 f h.2⟩
theorem keep10 {w w':World} {p1 p2 p3 p4 p5 p6 p7 p8 p9 p10:Addr} {v1 v2 v3 v4 v5 v6 v7 v8 v9 v10:Value} (f:MM.Far [] w w') (h:w.cell? p1=some v1∧w.cell? p2=some v2∧w.cell? p3=some v3∧w.cell? p4=some v4∧w.cell? p5=some v5∧w.cell? p6=some v6∧w.cell? p7=some v7∧w.cell? p8=some v8∧w.cell? p9=some v9∧w.cell? p10=some v10):w'.cell? p1=some v1∧w'.cell? p2=some v2∧w'.cell? p3=some v3∧w'.cell? p4=some v4∧w'.cell? p5=some v5∧w'.cell? p6=some v6∧w'.cell? p7=some v7∧w'.cell? p8=some v8∧w'.cell? p9=some v9∧w'.cell? p10=some v10:=⟨far_cell f h.1 (MR.cell_lt h.1),keep9 f h.2⟩
theorem keep11 {w w':World} {p1 p2 p3 p4 p5 p6 p7 p8 p9 p10 p11:Addr} {v1 v2 v3 v4 v5 v6 v7 v8 v9 v10 v11:Value} (f:MM.Far [] w w') (h:w.cell? p1=some v1∧w.cell? p2=some v2∧w.cell? p3=some v3∧w.cell? p4=some v4∧w.cell? p5=some v5∧w.cell? p6=some v6∧w.cell? p7=some v7∧w.cell? p8=some v8∧w.cell? p9=some v9∧w.cell? p10=some v10∧w.cell? p11=some v11):w'.cell? p1=some v1∧w'.cell? p2=some v2∧w'.cell? p3=some v3∧w'.cell? p4=some v4∧w'.cell? p5=some v5∧w'.cell? p6=some v6∧w'.cell? p7=some v7∧w'.cell? p8=some v8∧w'.cell? p9=some v9∧w'.cell? p10=some v10∧w'.cell? p11=some v11:=⟨far_cell f h.1 (MR.cell_lt h.1),keep10 f h.2⟩
def Fr (w:World) (Z:List Nat) (fv:Value) (row:List Rf):Prop:=∃ FA fc,fv = .slice FA row.length fc∧∀ (k:Nat) (h:k < row.length),∃ fb fo LA lc,FA=some ⟨fb,fo,none⟩∧fb∉Z∧fb < w.heap.size ∧
  w.cell? ⟨fb,fo+k*8,none⟩=some (.int .u8 row[k].kind)∧w.cell? ⟨fb,fo+k*8+1,none⟩=some (num row[k].at_)∧w.cell? ⟨fb,fo+k*8+2,none⟩=some (num row[k].n)∧w.cell? ⟨fb,fo+k*8+3,none⟩=some (num row[k].a) ∧
  w.cell? ⟨fb,fo+k*8+4,none⟩=some (.string row[k].s)∧w.cell? ⟨fb,fo+k*8+5,none⟩=some (.slice none 0 0)∧w.cell? ⟨fb,fo+k*8+6,none⟩=some (.int .u64 row[k].w)∧w.cell? ⟨fb,fo+k*8+7,none⟩=some (.slice LA row[k].l.length lc) ∧
  Sl w Z (.slice LA row[k].l.length lc) (ints row[k].l)
theorem Fr.far {w w':World} {Z S:List Nat} {fv:Value} {row:List Rf} (h:Fr w Z fv row) (f:MM.Far S w w') (hS:∀ b∈S,b < w.heap.size→b∈Z):Fr w' Z fv row:=by
  obtain ⟨FA,fc,e,h⟩:=h;refine ⟨FA,fc,e,fun k hk=>?_⟩
  obtain ⟨fb,fo,LA,lc,e2,hz,hl,c0,c1,c2,c3,c4,c5,c6,c7,hs⟩:=h k hk;have g (x:Nat):w'.cell? ⟨fb,x,none⟩=w.cell? ⟨fb,x,none⟩:=f.cell (p:=⟨fb,x,none⟩) hl (fun hm=>hz (hS _ hm hl));exact ⟨fb,fo,LA,lc,e2,hz,Nat.lt_of_lt_of_le hl f.size,(g _).trans c0,(g _).trans c1,(g _).trans c2,(g _).trans c3,(g _).trans c4,(g _).trans c5,(g _).trans c6,(g _).trans c7,hs.far f hS⟩
theorem Fr.more {w:World} {Z Z':List Nat} {fv:Value} {row:List Rf} (h:Fr w Z fv row) (hZ:∀ b∈Z',b∈Z∨w.heap.size≤b):Fr w Z' fv row:=by
  obtain ⟨FA,fc,e,h⟩:=h;refine ⟨FA,fc,e,fun k hk=>?_⟩
  obtain ⟨fb,fo,LA,lc,e2,hz,hl,c0,c1,c2,c3,c4,c5,c6,c7,hs⟩:=h k hk;exact ⟨fb,fo,LA,lc,e2,fun hm=>(hZ fb hm).elim hz (fun h=>by omega),hl,c0,c1,c2,c3,c4,c5,c6,c7,hs.more hZ⟩
section
variable {base:Nat} {w W w':World} {q:Nat} {fv bv:Value} {ks:List Value} {ad:List Nat} {s:Gs} {y:List Stp × Gs} {e:Ending}
theorem CallQ.from_ (h:CallQ base W q fv bv ks ad y e w') (f:MM.Far [] w W):CallQ base w q fv bv ks ad y e w':=by
  obtain ⟨bv',ks',t,v,vs,he,h1,h2,h3,h4,h5⟩:=h;exact ⟨bv',ks',t,v,vs,he,h1,own_mono h2 f.size,h3,(f.mono (fun b hb _=>by cases hb)).trans h4 (fun b hb _=>hb),fun b hb=>(h5 b hb).imp id (fun h=>Nat.le_trans f.size h)⟩
theorem CallQ.row {xs:List Stp} (hR:RowQ W (Zof q bv ks ad) q ad xs e w') (hM:Mg base W q fv bv ks ad s) (f:MM.Far [] w W):CallQ base w q fv bv ks ad (xs,s) e w' :=
  callQ_of (t:=[]) (by rw [List.append_nil];exact hM) f (by rw [List.append_nil];exact hR) (fun a ha=>by cases ha)
set_option maxHeartbeats 4000000 in
set_option maxRecDepth 20000 in
theorem value_call {row:List Rf} (hM:Mg base w q fv bv ks ad s) (hbase:base≤w.heap.size) {b i:Nat} {v:Value} (hI:IsS w (Zof q bv ks ad) q ad v (.val b i)) (hR:Fr w (Zof q bv ks ad) fv row) (hok:okS row (.val b i) s) (hn:s.bs.length≤100000000000) (hlen:(rfAt row i).l.length≤100000) :
    ∃ f cs,v = .func (.func f) #[] cs∧(∀ W,(callFunc f cs).run Tryz.prog W = .ok (.enter f cs) W)∧Calls Tryz.prog f cs w (CallQ base w q fv bv ks ad (stp row (.val b i) s)):=by
  obtain ⟨bg,bi,bb,rfl,h1,h2,h3⟩:=hI;obtain ⟨hb,hi,hFo⟩:=hok;refine ⟨_,_,rfl,fun W=>by kernel_rfl,?_⟩
  show Calls _ _ _ _ (CallQ base w q fv bv ks ad (valS (rfAt row i) b s))
  obtain ⟨y,hy0⟩:∃ y,valS (rfAt row i) b s=y:=⟨_,rfl⟩
  rw [hy0];obtain ⟨FA,fc,rfl,hR⟩:=hR;obtain ⟨fb,fo,LA,lc,rfl,hz,hfb,d0,d1,d2,d3,d4,d5,d6,d7,hS⟩:=hR i hi;rw [rf_at hi] at hFo hlen hy0;generalize row[i]=f at *;obtain ⟨kind,at_,n,a,st,ww,l⟩:=f;simp only at d0 d1 d2 d3 d4 d5 d6 d7 hS hlen
  obtain ⟨m,hm⟩:∃ m,l.length=m:=⟨_,rfl⟩
  obtain ⟨N,hN⟩:∃ N,row.length=N:=⟨_,rfl⟩
  have c1:=h1.at;have c2:=hM.head.at (i:=0) rfl;have c3:=h2.at;have i0:(0:Int)≤(i:Int):=by omega
  have i1:(i:Int) < (N:Int):=by omega
  have HM:=Lib.hid hM;have HS:=Lib.hid hS;have HL:=Lib.hid hm;have HFo:=Lib.hid hFo;have HY:=Lib.hid hy0;clear hy0;have HB1:=Lib.hid h1;have HB3:=Lib.hid h3;rw [hN] at c2;rw [hm] at d7 hlen;clear hM hS hm hFo h1 h2 h3 hR hz hi hN;go_enter Tryz.func135,Tryz.ntmps135
  go_wp2
  go_region_held3 (fun w'=>w'.cell? ⟨bg,0,none⟩=some (ptr q)∧w'.cell? ⟨q,0,none⟩=some (.slice (some ⟨fb,fo,none⟩) N fc)∧w'.cell? ⟨bi,0,none⟩=some (num i)∧w'.cell? ⟨fb,fo+i*8,none⟩=some (.int .u8 kind)∧w'.cell? ⟨fb,fo+i*8+1,none⟩=some (num at_)∧w'.cell? ⟨fb,fo+i*8+2,none⟩=some (num n)∧w'.cell? ⟨fb,fo+i*8+3,none⟩=some (num a)∧w'.cell? ⟨fb,fo+i*8+4,none⟩=some (.string st)∧w'.cell? ⟨fb,fo+i*8+5,none⟩=some (.slice none 0 0)∧w'.cell? ⟨fb,fo+i*8+6,none⟩=some (.int .u64 ww)∧w'.cell? ⟨fb,fo+i*8+7,none⟩=some (.slice LA m lc)) (first | (with_reducible assumption) | go_keep) (fail)
  have HW0:Hid ((w.alloc (.cells #[.int .u8 kind,num at_,num n,num a,.string st,.slice none 0 0,.int .u64 ww,.slice LA m lc] 39)).drew=(w.alloc (.cells #[.int .u8 kind,num at_,num n,num a,.string st,.slice none 0 0,.int .u64 ww,.slice LA m lc] 39)).drew):=Lib.hid rfl;have FW:MM.Far [] w (w.alloc (.cells #[.int .u8 kind,num at_,num n,num a,.string st,.slice none 0 0,.int .u64 ww,.slice LA m lc] 39)).drew:=((MM.Far.refl [] w).alloc _).drew;have r0:MM.Row (w.alloc (.cells #[.int .u8 kind,num at_,num n,num a,.string st,.slice none 0 0,.int .u64 ww,.slice LA m lc] 39)).drew w.heap.size 39 [.int .u8 kind,num at_,num n,num a,.string st,.slice none 0 0,.int .u64 ww,.slice LA m lc]:=(MM.Row.new w _ _).drew;generalize (w.alloc (.cells #[.int .u8 kind,num at_,num n,num a,.string st,.slice none 0 0,.int .u64 ww,.slice LA m lc] 39)).drew=W at *;clear HW0 c1 c2 c3 d0 d1 d2 d3 d4 d5 d6 d7 i0 i1;have HM1:=Lib.hid (HM.out.far FW (by simp));have HS1:=Lib.hid (HS.out.far FW (by simp));have HZ1:=Lib.hid (fun x hx=>(HM1.out.z x hx).1);have hbW:=Nat.le_trans hbase FW.size;have HFW:=Lib.hid FW;have g1:=(HB1.out.far FW (by simp)).at;have g3:=(HB3.out.far FW (by simp)).at;have z0:=r0.at (i:=0) rfl;have z1:=r0.at (i:=1) rfl;have z2:=r0.at (i:=2) rfl;have z3:=r0.at (i:=3) rfl;have z4:=r0.at (i:=4) rfl;have z5:=r0.at (i:=5) rfl;have z6:=r0.at (i:=6) rfl;have z7:=r0.at (i:=7) rfl;obtain ⟨kb,hkb⟩:∃ kb,w.heap.size=kb:=⟨_,rfl⟩
  rw [hkb] at z0 z1 z2 z3 z4 z5 z6 z7 r0 ⊢;clear HM HS HB1 HB3 FW r0 hkb;have hy:=HY.out;unfold valS at hy;simp only at hy
  clear HY;by_cases k5:kind=5
  · rw [if_pos k5] at hy;subst hy k5;obtain rfl:m=3:=HL.out.symm.trans (HFo.out.k5 rfl);have HC:=Lib.hid (choice_any HM1.out hbW b (f:=⟨5,at_,n,a,st,ww,l⟩) HL.out (by rw [HL.out] at HS1;exact HS1.out))
    go_wp2_with (first
      | (go_at_call 136;refine HC.out.mono ?_;intro e w1 hQ;obtain ⟨bv',ks',t,v,vs,rfl,hQ2⟩:=hQ;have HQ:=Lib.hid (show CallQ base W q _ _ ks ad _ _ _ from ⟨bv',ks',t,v,vs,rfl,hQ2⟩);obtain ⟨pA,pc,rfl,_⟩:=MO.form hQ2.2.1;clear hQ2))
    go_ret
    exact HQ.out.from_ HFW.out
  have e5:(kind == 5)=false:=by simpa using k5
  rw [if_neg k5] at hy;by_cases k6:kind=6
  · rw [if_pos k6] at hy;subst hy k6;obtain rfl:m=1:=HL.out.symm.trans (HFo.out.k1 (.inl rfl));have HC:=Lib.hid (function_any HM1.out hbW b (f:=⟨6,at_,n,a,st,ww,l⟩) HL.out (by rw [HL.out] at HS1;exact HS1.out) hn)
    go_wp2_with (first
      | (go_at_call 137;refine HC.out.mono ?_;intro e w1 hQ;obtain ⟨bv',ks',t,v,vs,rfl,hQ2⟩:=hQ;have HQ:=Lib.hid (show CallQ base W q _ _ ks ad _ _ _ from ⟨bv',ks',t,v,vs,rfl,hQ2⟩);obtain ⟨pA,pc,rfl,_⟩:=MO.form hQ2.2.1;clear hQ2))
    go_ret
    exact HQ.out.from_ HFW.out
  have e6:(kind == 6)=false:=by simpa using k6
  rw [if_neg k6] at hy;by_cases k79:kind=7∨kind=9
  · rw [if_pos k79] at hy;obtain rfl:m=1:=HL.out.symm.trans (HFo.out.k1 (.inr k79));obtain ⟨x0,rfl⟩:∃ a,l=[a]:=List.length_eq_one_iff.1 HL.out;obtain ⟨g,o,rfl,-,hg2,y0⟩:=sl_at (k:=0) HS1.out rfl;rw [Nat.add_zero] at y0;have HA:=Lib.hid (Acc.nil (w:=W) q ad (MM.Far.refl [] W) HZ1.out);have HAS:=Lib.hid (fun w=>assignment_any ⟨kind,at_,n,a,st,ww,[x0]⟩ (some ⟨g,o,none⟩) 1 lc w);have HPU:Hid (∀ wx,(∀ x∈Zof q bv ks ad,x < wx.heap.size)→Calls Tryz.prog 116 #[ptr q,num b,KW.val (setK ⟨kind,at_,n,a,st,ww,[x0]⟩)] wx (StepQ wx (Zof q bv ks ad) q ad (.put b (setK ⟨kind,at_,n,a,st,ww,[x0]⟩)))):=Lib.hid (fun wx hz=>put_any wx q ad hz b _);obtain ⟨sk,hsk⟩:∃ sk,setK ⟨kind,at_,n,a,st,ww,[x0]⟩=sk:=⟨_,rfl⟩
    rw [hsk] at HAS HPU hy;obtain ⟨s1,s2,s3,s4⟩:=sk;clear hsk;simp only [List.getD_cons_zero] at hy
    subst hy
    rcases k79 with rfl | rfl
    · go_wp2
      go_region_held3 (fun w'=>w'.cell? ⟨bg,0,none⟩=some (ptr q)∧w'.cell? ⟨bb,0,none⟩=some (num b)∧w'.cell? ⟨g,o,none⟩=some (num x0)∧w'.cell? ⟨kb,0,none⟩=some (.int .u8 7)∧w'.cell? ⟨kb,1,none⟩=some (num at_)∧w'.cell? ⟨kb,2,none⟩=some (num n)∧w'.cell? ⟨kb,3,none⟩=some (num a)∧w'.cell? ⟨kb,4,none⟩=some (.string st)∧w'.cell? ⟨kb,5,none⟩=some (.slice none 0 0)∧w'.cell? ⟨kb,6,none⟩=some (.int .u64 ww)∧w'.cell? ⟨kb,7,none⟩=some (.slice (some ⟨g,o,none⟩) 1 lc)) (first | (with_reducible assumption) | go_keep) (first
        | (go_at_call 117;(first | (with_reducible refine (value_any _ q ad HA.out.z b _).mono ?_) | (have HA:=Lib.hid HA.out.dr;(with_reducible refine (value_any _ q ad HA.out.z b _).mono ?_)));rintro e w1 ⟨v,rfl,hI,hF⟩;obtain ⟨vf,vl,rfl⟩:=hI.func;have hk:=keep11 hF (by assumption);have HA:=Lib.hid (HA.out.step hI hF);clear hI hF)
        | (go_at_call 138;(with_reducible refine (HAS.out _).mono ?_);rintro e w1 ⟨rfl,hF⟩;have hk:=keep11 hF (by assumption);have HA:=Lib.hid (HA.out.go hF);clear hF)
        | (go_at_call 116;(with_reducible refine (HPU.out _ HA.out.z).mono ?_);rintro e w1 ⟨v,rfl,hI,hF⟩;obtain ⟨vf,vl,rfl⟩:=hI.func;have hk:=keep11 hF (by assumption);have HA:=Lib.hid (HA.out.step hI hF);clear hI hF)
        | fail)
      go_wp2;go_ret
      exact CallQ.row (HA.out.row (n:=2) rfl rfl (by omega)) HM1.out HFW.out
    · go_wp2
      go_region_held3 (fun w'=>w'.cell? ⟨bg,0,none⟩=some (ptr q)∧w'.cell? ⟨bb,0,none⟩=some (num b)∧w'.cell? ⟨g,o,none⟩=some (num x0)∧w'.cell? ⟨kb,0,none⟩=some (.int .u8 9)∧w'.cell? ⟨kb,1,none⟩=some (num at_)∧w'.cell? ⟨kb,2,none⟩=some (num n)∧w'.cell? ⟨kb,3,none⟩=some (num a)∧w'.cell? ⟨kb,4,none⟩=some (.string st)∧w'.cell? ⟨kb,5,none⟩=some (.slice none 0 0)∧w'.cell? ⟨kb,6,none⟩=some (.int .u64 ww)∧w'.cell? ⟨kb,7,none⟩=some (.slice (some ⟨g,o,none⟩) 1 lc)) (first | (with_reducible assumption) | go_keep) (first
        | (go_at_call 117;(first | (with_reducible refine (value_any _ q ad HA.out.z b _).mono ?_) | (have HA:=Lib.hid HA.out.dr;(with_reducible refine (value_any _ q ad HA.out.z b _).mono ?_)));rintro e w1 ⟨v,rfl,hI,hF⟩;obtain ⟨vf,vl,rfl⟩:=hI.func;have hk:=keep11 hF (by assumption);have HA:=Lib.hid (HA.out.step hI hF);clear hI hF)
        | (go_at_call 138;(with_reducible refine (HAS.out _).mono ?_);rintro e w1 ⟨rfl,hF⟩;have hk:=keep11 hF (by assumption);have HA:=Lib.hid (HA.out.go hF);clear hF)
        | (go_at_call 116;(with_reducible refine (HPU.out _ HA.out.z).mono ?_);rintro e w1 ⟨v,rfl,hI,hF⟩;obtain ⟨vf,vl,rfl⟩:=hI.func;have hk:=keep11 hF (by assumption);have HA:=Lib.hid (HA.out.step hI hF);clear hI hF)
        | fail)
      go_wp2;go_ret
      exact CallQ.row (HA.out.row (n:=2) rfl rfl (by omega)) HM1.out HFW.out
  have k7:¬ kind=7:=fun e=>k79 (.inl e)
  have k9:¬ kind=9:=fun e=>k79 (.inr e)
  have e7:(kind == 7)=false:=by simpa using k7
  have e9:(kind == 9)=false:=by simpa using k9
  rw [if_neg k79] at hy;by_cases k8:kind=8
  · rw [if_pos k8] at hy;subst hy k8;have HC:=Lib.hid (seq_any W q ad HZ1.out b HL.out hlen (by rw [HL.out] at HS1;exact HS1.out));rw [← seqS_false] at HC
    go_wp2_with (first
      | (go_at_call 74;refine HC.out.mono ?_;intro e w1 hQ;obtain ⟨pA,pc,pvs,rfl,hpl,hpo,hpi,hpf⟩:=rowQ_form hQ;have HQ:=Lib.hid (rowQ_of ⟨pvs,hpo,hpi,hpf⟩);clear hQ hpo hpi hpf hpl))
    go_ret
    exact CallQ.row HQ.out HM1.out HFW.out
  have e8:(kind == 8)=false:=by simpa using k8
  rw [if_neg k8] at hy;by_cases k10:kind=10
  · rw [if_pos k10] at hy;subst hy k10;obtain ⟨m,rfl⟩:∃ m',m=m'+1:=⟨m - 1,by have:=HFo.out.k10 rfl;have:=HL.out;simp only at *;omega⟩
    have HC:=Lib.hid (call_any W q ad HZ1.out b 12 (f:=⟨10,at_,n,a,st,ww,l⟩) HL.out (by omega) (by rw [HL.out] at HS1;exact HS1.out))
    go_wp2_with (first
      | (go_at_call 120;refine HC.out.mono ?_;intro e w1 hQ;obtain ⟨pA,pc,pvs,rfl,hpl,hpo,hpi,hpf⟩:=rowQ_form hQ;have HQ:=Lib.hid (rowQ_of ⟨pvs,hpo,hpi,hpf⟩);clear hQ hpo hpi hpf hpl))
    go_ret
    exact CallQ.row HQ.out HM1.out HFW.out
  have e10:(kind == 10)=false:=by simpa using k10
  rw [if_neg k10] at hy;by_cases k12:kind=12
  · rw [if_pos k12] at hy;subst hy k12;have HC:=Lib.hid (primitive_any W q ad HZ1.out b (f:=⟨12,at_,n,a,st,ww,l⟩) HL.out hlen (fun h=>HL.out.symm.trans (HFo.out.k18 rfl h)) (by rw [HL.out] at HS1;exact HS1.out))
    go_wp2_with (first
      | (go_at_call 139;refine HC.out.mono ?_;intro e w1 hQ;obtain ⟨pA,pc,pvs,rfl,hpl,hpo,hpi,hpf⟩:=rowQ_form hQ;have HQ:=Lib.hid (rowQ_of ⟨pvs,hpo,hpi,hpf⟩);clear hQ hpo hpi hpf hpl))
    go_ret
    exact CallQ.row HQ.out HM1.out HFW.out
  have e12:(kind == 12)=false:=by simpa using k12
  rw [if_neg k12] at hy;have HLK:=Lib.hid (fun w=>lookup_any ⟨kind,at_,n,a,st,ww,l⟩ LA m lc w);have HPU:Hid (∀ wx,(∀ x∈Zof q bv ks ad,x < wx.heap.size)→Calls Tryz.prog 116 #[ptr q,num b,KW.val (leafK ⟨kind,at_,n,a,st,ww,l⟩)] wx (StepQ wx (Zof q bv ks ad) q ad (.put b (leafK ⟨kind,at_,n,a,st,ww,l⟩)))):=Lib.hid (fun wx hz=>put_any wx q ad hz b _);have HA:=Lib.hid (Acc.nil (w:=W) q ad (MM.Far.refl [] W) HZ1.out);obtain ⟨sk,hsk⟩:∃ sk,leafK ⟨kind,at_,n,a,st,ww,l⟩=sk:=⟨_,rfl⟩
  rw [hsk] at HLK HPU hy;obtain ⟨s1,s2,s3,s4⟩:=sk;clear hsk;subst hy;go_wp2
  go_region_held3 (fun w'=>w'.cell? ⟨bg,0,none⟩=some (ptr q)∧w'.cell? ⟨bb,0,none⟩=some (num b)∧w'.cell? ⟨kb,0,none⟩=some (.int .u8 kind)∧w'.cell? ⟨kb,1,none⟩=some (num at_)∧w'.cell? ⟨kb,2,none⟩=some (num n)∧w'.cell? ⟨kb,3,none⟩=some (num a)∧w'.cell? ⟨kb,4,none⟩=some (.string st)∧w'.cell? ⟨kb,5,none⟩=some (.slice none 0 0)∧w'.cell? ⟨kb,6,none⟩=some (.int .u64 ww)∧w'.cell? ⟨kb,7,none⟩=some (.slice LA m lc)) (first | (with_reducible assumption) | go_keep) (first
    | (go_at_call 140;(with_reducible refine (HLK.out _).mono ?_);rintro e w1 ⟨rfl,hF⟩;have hk:=keep10 hF (by assumption);have HA:=Lib.hid (HA.out.dr.go hF);clear hF)
    | (go_at_call 116;(with_reducible refine (HPU.out _ HA.out.z).mono ?_);rintro e w1 ⟨v,rfl,hI,hF⟩;obtain ⟨vf,vl,rfl⟩:=hI.func;have hk:=keep10 hF (by assumption);have HA:=Lib.hid (HA.out.step hI hF);clear hI hF)
    | fail)
  go_wp2;go_ret
  exact CallQ.row (HA.out.row (n:=1) rfl rfl (by omega)) HM1.out HFW.out
end
end GW
end Go.Proofs.YtehgmmbdlnginaaGreatDoor
