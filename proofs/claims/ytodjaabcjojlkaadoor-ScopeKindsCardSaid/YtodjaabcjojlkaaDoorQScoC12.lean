/-
  Several texts in one: ScoC9,ScoC10,ScoC11,ScoC12.
-/
import Derived.Test.YtodjaabcjojlkaaDoorQScoC8
namespace Go.Proofs.YtodjaabcjojlkaaDoor
open Go.RowKit
set_option linter.unusedVariables false
namespace SM
open LX SX RW6 EX SC
open EW (Sl Bx ptr num strs bx_new z_alloc sz_alloc z_far z_drew made_list sl_new keep2 keep3 keep4 ints_len int_head NdR FmR Bx.cons)
section
variable {w0 w w1 W:World} {Y Z:List Nat} {q g:Nat} {h:Hd} {C:Cx} {K:List ByteArray} {R:Rws} {N:List ByteArray}
set_option maxHeartbeats 4000000 in
set_option maxRecDepth 20000 in
theorem quote_any (E:Ev w0 w Y Z q g h C K R N) (a:Int) {i:Nat} (hi:i < C.ns.length) :
    Calls Tryd.prog 60 #[ptr q,num a,num i] w (EvQ w0 w Y Z q g h C R (SC.quo C.ns R N a i).2 (SC.quo C.ns R N a i).1):=by
  obtain ⟨k,hk⟩:∃ k,w.heap.size=k:=⟨_,rfl⟩
  obtain ⟨W,hW⟩:∃ W,w.alloc zS=W:=⟨_,rfl⟩
  have F0:MM.Far [] w W:=by rw [← hW];exact (MM.Far.refl [] w).alloc _
  have HB0:Hid (SnBox W k):=Lib.hid (by rw [← hW];exact SnBox.new hk);have E1:=E.box F0 (by omega:w.heap.size≤k) HB0.out.lt;obtain ⟨db,d1,LA,lc,dc,hdv,z0,z1,z2,z3,z4,hS⟩:=E1.datum hi;obtain ⟨bv,im,hh⟩:=E1.sc.head;have x0:W.cell? ⟨q,0,none⟩=some h.dv:=hh.at (i:=0) rfl;rw [hdv] at x0;have hx0:(0:Int)≤(i:Int):=by omega
  obtain ⟨n,hn⟩:∃ n,C.ns.length=n:=⟨_,rfl⟩
  rw [hn] at x0 hi;have hx1:(i:Int) < (n:Int):=by omega
  have h1:=E.lz.gd.datI i;have h3:=E.lz.gd.datN i;have hkk:=(show ∀ p∈(ndAt C.ns i).l,p < C.ns.length from fun p hp=>(kid E.lz.gd.fw.ok hp).2)
  unfold SC.quo;generalize ndAt C.ns i=d at z0 z1 z2 z3 z4 hS h1 h3 hkk ⊢;obtain ⟨kd,at_,nn,s,ll⟩:=d;simp only at z0 z1 z2 z3 z4 hS h1 h3 ⊢
  obtain ⟨m1,hm1⟩:∃ m1,ll.length=m1:=⟨_,rfl⟩
  rw [hm1] at z4 hS;obtain ⟨WN,hWN⟩:∃ WN,W.alloc (.cells #[.int .u8 kd,.int .i64 at_,.int .i64 nn,.string s,.slice LA m1 lc] 86)=WN:=⟨_,rfl⟩
  have FN:MM.Far [] W WN:=by rw [← hWN];exact (MM.Far.refl [] W).alloc _
  have E2:=E1.to FN (fun b hb=>.inl hb) (fun b hb=>Nat.lt_of_lt_of_le (E1.z b hb) FN.size) (fun b hb=>hb);have HEB:=Lib.hid E.sc.eb;have HB:=Lib.hid (HB0.out.far FN (by simp));have HBW:Hid (k < WN.heap.size):=Lib.hid (Nat.lt_of_lt_of_le HB0.out.lt FN.size);have HF:=Lib.hid (F0.trans FN (by simp));have HK:=Lib.hid hk;have HLS:=hS.far FN (by simp);have toE:=fun {sn:Sn} {e:Ending} {w':World} (hq:SnQ WN (k::Z) q sn e w')=>EvQ.of E2.sc E2.sub hq
  by_cases k1:kd=1
  · subst k1;rw [if_pos rfl];have HC:=Lib.hid ((number_any WN (Z:=k::Z) q a nn (h1 rfl) R).mono (fun e w' hq=>toE hq));clear hh E E1 E2 F0 FN hS HLS toE hdv hn h1 h3 hkk HB0;subst hWN;subst hW;subst hk;unfold zS num at *;unfold ptr at *;go_enter Tryd.func60,Tryd.ntmps60
    go_wp2_with (first
      | (go_at_call 57;(with_reducible refine HC.out.mono ?_);rintro e w1 ⟨v,Y1,rfl,hY1,hF1,hS1,hI1⟩;obtain ⟨e1,f1,A1,m1,c1,rfl,hl1⟩:=hI1.form;have HY1:=Lib.hid hY1;have HF1:=Lib.hid hF1;have HS1:=Lib.hid hS1;have HI1:=Lib.hid hI1;have HB1:=Lib.hid (HB.out.far hF1 (fun hm=>by have:=HEB.out.y _ hm;omega));clear hY1 hF1 hS1 hI1;obtain ⟨v0,v1,v2,v3,v4,v5,v6,v7,v8,v9,y0,y1,y2,y3,y4,y5,y6,y7,y8,y9,hfz⟩:=HB1.out.cells;obtain ⟨fk,fa,fn,fA,fs,fw,fl⟩:=f1;simp only at hl1;subst hl1;unfold snV num))
    exact fin_ev rfl rfl rfl HEB.out HF.out (by omega) HBW.out HY1.out HF1.out HS1.out HB1.out HI1.out
  by_cases k2:kd=2
  · subst k2;rw [if_neg (by decide),if_pos rfl];have HC:=Lib.hid (fun wd=>(constant_any WN (Z:=k::Z) q a wd R).mono (fun e w' hq=>toE hq));have HBO:=Lib.hid (WW.bool_any (decide (nn=1)) WN);clear hh E E1 E2 F0 FN hS HLS toE hdv hn h1 h3 hkk HB0 k1;subst hWN;subst hW;subst hk;unfold zS num at *;unfold ptr at *;go_enter Tryd.func60,Tryd.ntmps60
    go_wp2_with (first
      | (go_at_call 59;refine HBO.out.mono ?_;rintro e w2 ⟨rfl,rfl⟩)
      | (go_at_call 58;(with_reducible refine (HC.out _).mono ?_);rintro e w1 ⟨v,Y1,rfl,hY1,hF1,hS1,hI1⟩;obtain ⟨e1,f1,A1,m1,c1,rfl,hl1⟩:=hI1.form;have HY1:=Lib.hid hY1;have HF1:=Lib.hid hF1;have HS1:=Lib.hid hS1;have HI1:=Lib.hid hI1;have HB1:=Lib.hid (HB.out.far hF1 (fun hm=>by have:=HEB.out.y _ hm;omega));clear hY1 hF1 hS1 hI1;obtain ⟨v0,v1,v2,v3,v4,v5,v6,v7,v8,v9,y0,y1,y2,y3,y4,y5,y6,y7,y8,y9,hfz⟩:=HB1.out.cells;obtain ⟨fk,fa,fn,fA,fs,fw,fl⟩:=f1;simp only at hl1;subst hl1;unfold snV num))
    exact fin_ev rfl rfl rfl HEB.out HF.out (by omega) HBW.out HY1.out HF1.out HS1.out HB1.out HI1.out
  by_cases k3:kd=3
  · subst k3;rw [if_neg (by decide),if_neg (by decide),if_pos rfl];have HC:=Lib.hid (quoteName_any E2 a (h3 rfl));generalize NP.putL N s=N2 at *;generalize WP.ofW 3 (NP.putI N s)=wd at *;clear hh E E1 E2 F0 FN hS HLS toE hdv hn h1 h3 hkk HB0 k1 k2;subst hWN;subst hW;subst hk;unfold zS num at *;unfold ptr at *;go_enter Tryd.func60,Tryd.ntmps60
    go_wp2_with (first
      | (go_at_call 70;(with_reducible refine HC.out.mono ?_);rintro e w1 ⟨v,Y1,rfl,hY1,hF1,hS1,hI1⟩;obtain ⟨e1,f1,A1,m1,c1,rfl,hl1⟩:=hI1.form;have HY1:=Lib.hid hY1;have HF1:=Lib.hid hF1;have HS1:=Lib.hid hS1;have HI1:=Lib.hid hI1;have HB1:=Lib.hid (HB.out.far hF1 (fun hm=>by have:=HEB.out.y _ hm;omega));clear hY1 hF1 hS1 hI1;obtain ⟨v0,v1,v2,v3,v4,v5,v6,v7,v8,v9,y0,y1,y2,y3,y4,y5,y6,y7,y8,y9,hfz⟩:=HB1.out.cells;obtain ⟨fk,fa,fn,fA,fs,fw,fl⟩:=f1;simp only at hl1;subst hl1;unfold snV num))
    exact fin_ev rfl rfl rfl HEB.out HF.out (by omega) HBW.out HY1.out HF1.out HS1.out HB1.out HI1.out
  · rw [if_neg k1,if_neg k2,if_neg k3];have HC:=Lib.hid ((quoteList_any WN (Z:=k::Z) q E2.z a R HLS hm1).mono (fun e w' hq=>toE hq));obtain ⟨sn,hsn⟩:∃ sn,quoL R a ll=sn:=⟨_,rfl⟩
    rw [hsn] at HC;simp only [hsn]
    have g1:(kd == 1)=false:=by simp [k1]
    have g2:(kd == 2)=false:=by simp [k2]
    have g3:(kd == 3)=false:=by simp [k3]
    clear hh E E1 E2 F0 FN hS HLS toE hdv hn h1 h3 hkk HB0 hsn;subst hWN;subst hW;subst hk;unfold zS num at *;unfold ptr at *;go_enter Tryd.func60,Tryd.ntmps60
    go_wp2_with (first
      | (go_at_call 71;(with_reducible refine HC.out.mono ?_);rintro e w1 ⟨v,Y1,rfl,hY1,hF1,hS1,hI1⟩;obtain ⟨e1,f1,A1,m1,c1,rfl,hl1⟩:=hI1.form;have HY1:=Lib.hid hY1;have HF1:=Lib.hid hF1;have HS1:=Lib.hid hS1;have HI1:=Lib.hid hI1;have HB1:=Lib.hid (HB.out.far hF1 (fun hm=>by have:=HEB.out.y _ hm;omega));clear hY1 hF1 hS1 hI1;obtain ⟨v0,v1,v2,v3,v4,v5,v6,v7,v8,v9,y0,y1,y2,y3,y4,y5,y6,y7,y8,y9,hfz⟩:=HB1.out.cells;obtain ⟨fk,fa,fn,fA,fs,fw,fl⟩:=f1;simp only at hl1;subst hl1;unfold snV num))
    exact fin_ev rfl rfl rfl HEB.out HF.out (by omega) HBW.out HY1.out HF1.out HS1.out HB1.out HI1.out
end
end SM
end Go.Proofs.YtodjaabcjojlkaaDoor
namespace Go.Proofs.YtodjaabcjojlkaaDoor
open Go.RowKit
set_option linter.unusedVariables false
namespace SM
open LX SX RW6 EX SC
open EW (Sl Bx ptr num strs bx_new z_alloc sz_alloc z_far z_drew made_list sl_new keep2 keep3 keep4 ints_len int_head NdR FmR Bx.cons)
theorem farY {Y:List Nat} {w w':World} (f:MM.Far Y w w') {p:Addr} {v:Value} (h:w.cell? p=some v) (hn:p.block∉Y):w'.cell? p=some v:=(f.cell (MR.cell_lt h) hn).trans h
section
variable {w0 w w1 W:World} {Y Z:List Nat} {q g:Nat} {h:Hd} {C:Cx} {K:List ByteArray} {R:Rws} {N:List ByteArray}
set_option maxHeartbeats 4000000 in
set_option maxRecDepth 20000 in
theorem qd_call (E:Ev w0 w Y Z q g h C K R N) {a:Int} {v:Value} {i:Nat} {l:List Nat} {bx ba bl:Nat} (hin:i < C.ns.length) (h1:Bx w Z bx 69 (ptr q)) (h2:Bx w Z ba 3 (num a)) (h3:Bx w Z bl 24 v) (h4:Sl w Z v (ints (i::l))) :
    Calls Tryd.prog 82 #[ptr bx,ptr ba,ptr bl] w (EvQ w0 w Y Z q g h C R (SC.quo C.ns R N a i).2 (SC.quo C.ns R N a i).1):=by
  obtain ⟨k,hk⟩:∃ k,w.heap.size=k:=⟨_,rfl⟩
  obtain ⟨W,hW⟩:∃ W,w.alloc zS=W:=⟨_,rfl⟩
  have F0:MM.Far [] w W:=by rw [← hW];exact (MM.Far.refl [] w).alloc _
  have HB0:Hid (SnBox W k):=Lib.hid (by rw [← hW];exact SnBox.new hk);have E1:=E.box F0.drew (by omega:w.heap.size≤k) HB0.out.lt;rw [int_head] at h4;obtain ⟨sg,so,sc,rfl,hc,hc1,hc2,hg,hgz,htl⟩:=h4.cons;have hlen:(ints l).length=l.length:=by unfold ints;rw [List.length_map]
  obtain ⟨m1,hm1⟩:∃ m1,l.length=m1:=⟨_,rfl⟩
  rw [hlen,hm1] at hc1 htl h3;have x1:=farC F0 h1.at;have x2:=farC F0 h2.at;have x3:=farC F0 h3.at;have x4:=farC F0 hc;have hbx:bx∉Y:=fun hm=>h1.out (E.sub _ hm)
  have hba:ba∉Y:=fun hm=>h2.out (E.sub _ hm)
  have hbl:bl∉Y:=fun hm=>h3.out (E.sub _ hm)
  have hsg:sg∉Y:=fun hm=>hgz (E.sub _ hm)
  have HKP:Hid (∀ w1 w2,MM.Far Y w1 w2→(w1.cell? ⟨bx,0,none⟩=some (.pointer (some ⟨q,0,none⟩))∧w1.cell? ⟨ba,0,none⟩=some (.int .i64 a)∧w1.cell? ⟨bl,0,none⟩=some (.slice (some ⟨sg,so,none⟩) (m1+1) sc)∧w1.cell? ⟨sg,so,none⟩=some (.int .i64 (i:Nat)))→(w2.cell? ⟨bx,0,none⟩=some (.pointer (some ⟨q,0,none⟩))∧w2.cell? ⟨ba,0,none⟩=some (.int .i64 a)∧w2.cell? ⟨bl,0,none⟩=some (.slice (some ⟨sg,so,none⟩) (m1+1) sc)∧w2.cell? ⟨sg,so,none⟩=some (.int .i64 (i:Nat)))) :=
    Lib.hid (fun w1 w2 f h=>⟨farY f h.1 hbx,farY f h.2.1 hba,farY f h.2.2.1 hbl,farY f h.2.2.2 hsg⟩)
  have n1:=World.new_ne w ⟨bx,0,none⟩ h1.at;have n2:=World.new_ne w ⟨ba,0,none⟩ h2.at;have n3:=World.new_ne w ⟨bl,0,none⟩ h3.at;have n4:=World.new_ne w ⟨sg,so,none⟩ hc;have hi0:(0:Int)≤0:=by omega
  have hi1:(0:Int) < (m1:Int)+1:=by omega
  have hsc:¬ sc=0:=by omega
  have hsm:m1≤sc - 1:=by omega
  unfold maxLen at hc2;have HC:=Lib.hid (quote_any E1 a hin);obtain ⟨sn,hsn⟩:∃ sn,(SC.quo C.ns R N a i).1=sn:=⟨_,rfl⟩
  obtain ⟨N2,hN2⟩:∃ N2,(SC.quo C.ns R N a i).2=N2:=⟨_,rfl⟩
  rw [hsn,hN2] at HC ⊢;clear hsn hN2;have HEB:=Lib.hid E.sc.eb;have HB:=Lib.hid (HB0.out.far ((MM.Far.refl [] W).drew) (by simp));have HBW:Hid (k < W.drew.heap.size):=Lib.hid HB0.out.lt;have HF:=Lib.hid F0.drew;have HK:=Lib.hid hk;clear E E1 F0 h1 h2 h3 h4 htl hc hlen hm1 hbx hba hbl hsg HB0 hg hgz;subst hW;subst hk;unfold zS num at *;unfold ptr at *;go_enter Tryd.func82,Tryd.ntmps82
  go_wp2;generalize w.alloc (.cells #[.int .i64 0,.int .u8 0,.int .i64 0,.int .i64 0,.int .i64 0,.string ⟨#[]⟩,.slice none 0 0,.int .u64 0,.slice none 0 0,.slice none 0 0] 100)=W at *
  go_region_held3 (fun w'=>w'.cell? ⟨bx,0,none⟩=some (.pointer (some ⟨q,0,none⟩))∧w'.cell? ⟨ba,0,none⟩=some (.int .i64 a)∧w'.cell? ⟨bl,0,none⟩=some (.slice (some ⟨sg,so,none⟩) (m1+1) sc)∧w'.cell? ⟨sg,so,none⟩=some (.int .i64 (i:Nat))) (first | (with_reducible assumption) | go_keep) (first
    | (go_at_call 60;(with_reducible refine HC.out.mono ?_);rintro e w1 ⟨v,Y1,rfl,hY1,hF1,hS1,hI1⟩;obtain ⟨e1,f1,A1,m1,c1,rfl,hl1⟩:=hI1.form;have HY1:=Lib.hid hY1;have HF1:=Lib.hid hF1;have HS1:=Lib.hid hS1;have HI1:=Lib.hid hI1;have HB1:=Lib.hid (HB.out.far hF1 (fun hm=>by have:=HEB.out.y _ hm;omega));have hk1:=HKP.out _ _ hF1 (by assumption);clear hY1 hF1 hS1 hI1;obtain ⟨v0,v1,v2,v3,v4,v5,v6,v7,v8,v9,y0,y1,y2,y3,y4,y5,y6,y7,y8,y9,hfz⟩:=HB1.out.cells;obtain ⟨fk,fa,fn,fA,fs,fw,fl⟩:=f1;simp only at hl1;subst hl1;unfold snV num))
  go_wp2;exact fin_ev rfl rfl rfl HEB.out HF.out (by omega) HBW.out HY1.out HF1.out HS1.out HB1.out HI1.out
set_option maxHeartbeats 4000000 in
set_option maxRecDepth 20000 in
theorem ql_call (E:Ev w0 w Y Z q g h C K R N) {a:Int} {v:Value} {i:Nat} {l:List Nat} {bx ba bl:Nat} (h1:Bx w Z bx 69 (ptr q)) (h2:Bx w Z ba 3 (num a)) (h3:Bx w Z bl 24 v) (h4:Sl w Z v (ints (i::l))) :
    Calls Tryd.prog 83 #[ptr bx,ptr ba,ptr bl] w (EvQ w0 w Y Z q g h C R N (quoL R a l)):=by
  obtain ⟨k,hk⟩:∃ k,w.heap.size=k:=⟨_,rfl⟩
  obtain ⟨W,hW⟩:∃ W,w.alloc zS=W:=⟨_,rfl⟩
  have F0:MM.Far [] w W:=by rw [← hW];exact (MM.Far.refl [] w).alloc _
  have HB0:Hid (SnBox W k):=Lib.hid (by rw [← hW];exact SnBox.new hk);have E1:=E.box F0.drew (by omega:w.heap.size≤k) HB0.out.lt;rw [int_head] at h4;obtain ⟨sg,so,sc,rfl,hc,hc1,hc2,hg,hgz,htl⟩:=h4.cons;have hlen:(ints l).length=l.length:=by unfold ints;rw [List.length_map]
  obtain ⟨m1,hm1⟩:∃ m1,l.length=m1:=⟨_,rfl⟩
  rw [hlen,hm1] at hc1 htl h3;have x1:=farC F0 h1.at;have x2:=farC F0 h2.at;have x3:=farC F0 h3.at;have x4:=farC F0 hc;have hbx:bx∉Y:=fun hm=>h1.out (E.sub _ hm)
  have hba:ba∉Y:=fun hm=>h2.out (E.sub _ hm)
  have hbl:bl∉Y:=fun hm=>h3.out (E.sub _ hm)
  have hsg:sg∉Y:=fun hm=>hgz (E.sub _ hm)
  have HKP:Hid (∀ w1 w2,MM.Far Y w1 w2→(w1.cell? ⟨bx,0,none⟩=some (.pointer (some ⟨q,0,none⟩))∧w1.cell? ⟨ba,0,none⟩=some (.int .i64 a)∧w1.cell? ⟨bl,0,none⟩=some (.slice (some ⟨sg,so,none⟩) (m1+1) sc)∧w1.cell? ⟨sg,so,none⟩=some (.int .i64 (i:Nat)))→(w2.cell? ⟨bx,0,none⟩=some (.pointer (some ⟨q,0,none⟩))∧w2.cell? ⟨ba,0,none⟩=some (.int .i64 a)∧w2.cell? ⟨bl,0,none⟩=some (.slice (some ⟨sg,so,none⟩) (m1+1) sc)∧w2.cell? ⟨sg,so,none⟩=some (.int .i64 (i:Nat)))) :=
    Lib.hid (fun w1 w2 f h=>⟨farY f h.1 hbx,farY f h.2.1 hba,farY f h.2.2.1 hbl,farY f h.2.2.2 hsg⟩)
  have n1:=World.new_ne w ⟨bx,0,none⟩ h1.at;have n2:=World.new_ne w ⟨ba,0,none⟩ h2.at;have n3:=World.new_ne w ⟨bl,0,none⟩ h3.at;have n4:=World.new_ne w ⟨sg,so,none⟩ hc;have hi0:(0:Int)≤0:=by omega
  have hi1:(0:Int) < (m1:Int)+1:=by omega
  have hsc:¬ sc=0:=by omega
  have hsm:m1≤sc - 1:=by omega
  unfold maxLen at hc2;have HSL:=EW.slice_ints sg so m1 sc;obtain ⟨A2,hA2⟩:∃ A2,(if sc=1 then some ⟨sg,so,none⟩ else some ⟨sg,so+1,none⟩:Option Addr)=A2:=⟨_,rfl⟩
  rw [hA2] at HSL htl;clear hA2;have htl2:Sl W.drew (k::Z) (.slice A2 m1 (sc - 1)) (ints l):=(htl.more (fun x hx=>(List.mem_cons.1 hx).elim (fun e=>.inr (by omega)) .inl)).far F0.drew (by simp);have HC:=Lib.hid ((quoteList_any W.drew (Z:=k::Z) q E1.z a R htl2 hm1).mono (fun e w' hq=>EvQ.of E1.sc E1.sub hq));obtain ⟨sn,hsn⟩:∃ sn,quoL R a l=sn:=⟨_,rfl⟩
  rw [hsn] at HC ⊢;clear hsn htl2;have HEB:=Lib.hid E.sc.eb;have HB:=Lib.hid (HB0.out.far ((MM.Far.refl [] W).drew) (by simp));have HBW:Hid (k < W.drew.heap.size):=Lib.hid HB0.out.lt;have HF:=Lib.hid F0.drew;have HK:=Lib.hid hk;clear E E1 F0 h1 h2 h3 h4 htl hc hlen hm1 hbx hba hbl hsg HB0 hg hgz;subst hW;subst hk;unfold zS num at *;unfold ptr at *;go_enter Tryd.func83,Tryd.ntmps83
  go_wp2;generalize w.alloc (.cells #[.int .i64 0,.int .u8 0,.int .i64 0,.int .i64 0,.int .i64 0,.string ⟨#[]⟩,.slice none 0 0,.int .u64 0,.slice none 0 0,.slice none 0 0] 100)=W at *
  go_region_held3 (fun w'=>w'.cell? ⟨bx,0,none⟩=some (.pointer (some ⟨q,0,none⟩))∧w'.cell? ⟨ba,0,none⟩=some (.int .i64 a)∧w'.cell? ⟨bl,0,none⟩=some (.slice (some ⟨sg,so,none⟩) (m1+1) sc)∧w'.cell? ⟨sg,so,none⟩=some (.int .i64 (i:Nat))) (first | (with_reducible assumption) | go_keep) (first
    | (go_at_call 71;(with_reducible refine HC.out.mono ?_);rintro e w1 ⟨v,Y1,rfl,hY1,hF1,hS1,hI1⟩;obtain ⟨e1,f1,A1,m1,c1,rfl,hl1⟩:=hI1.form;have HY1:=Lib.hid hY1;have HF1:=Lib.hid hF1;have HS1:=Lib.hid hS1;have HI1:=Lib.hid hI1;have HB1:=Lib.hid (HB.out.far hF1 (fun hm=>by have:=HEB.out.y _ hm;omega));have hk1:=HKP.out _ _ hF1 (by assumption);clear hY1 hF1 hS1 hI1;obtain ⟨v0,v1,v2,v3,v4,v5,v6,v7,v8,v9,y0,y1,y2,y3,y4,y5,y6,y7,y8,y9,hfz⟩:=HB1.out.cells;obtain ⟨fk,fa,fn,fA,fs,fw,fl⟩:=f1;simp only at hl1;subst hl1;unfold snV num))
  go_wp2;exact fin_ev rfl rfl rfl HEB.out HF.out (by omega) HBW.out HY1.out HF1.out HS1.out HB1.out HI1.out
end
end SM
end Go.Proofs.YtodjaabcjojlkaaDoor
namespace Go.Proofs.YtodjaabcjojlkaaDoor
open Go.RowKit
set_option linter.unusedVariables false
namespace SM
open LX SX RW6 EX SC
open EW (Sl Bx ptr num strs bx_new z_alloc sz_alloc z_far z_drew made_list sl_new keep2 keep3 keep4 ints_len int_head NdR FmR Bx.cons)
def refV (C:Cx) (R:Rws) (N:List ByteArray) (s:ByteArray):Value × List ByteArray:=match wher R s with
  | some (a,n)=>(.tuple #[num a,num n,.int .i64 0],N)
  | none=>if s∈C.own then (.tuple #[num (-1),num (NP.putI N s),.int .i64 0],NP.putL N s) else (.tuple #[num 0,num 0,.int .i64 (noName s)],N)
theorem Sc.look {w0 w:World} {Y:List Nat} {q g:Nat} {h:Hd} {own:ByteArray→Nat} {R:Rws} {N:List ByteArray} (s:Sc w0 w Y q g h own R N) (k:ByteArray):w.cell? ⟨q,3,none⟩=some h.dm∧w.cell? ⟨q,2,none⟩=some (ptr g)∧(Instr.lookup 48 h.dm (.string k) false).run Tryd.prog w = .ok (.int .i64 (own k)) w:=by
  obtain ⟨bv,im,mv,sv,S,s⟩:=s;exact ⟨s.head.at (i:=3) rfl,s.head.at (i:=2) rfl,s.dfd.look k⟩
section
variable {w0 w w1 W:World} {Y Z:List Nat} {q g:Nat} {h:Hd} {C:Cx} {K:List ByteArray} {R:Rws} {N:List ByteArray}
set_option maxHeartbeats 4000000 in
set_option maxRecDepth 20000 in
theorem refer_any (E:Ev w0 w Y Z q g h C K R N) (s:ByteArray) (hs:s.size≤140737488355328) :
    Calls Tryd.prog 72 #[ptr q,.string s] w fun e w'=>e = .returned (refV C R N s).1∧ScQ w0 w Y q g h (ownC C) R (refV C R N s).2 w':=by
  have HFI:=Lib.hid (find_any E.sc (fun r hr=>(E.rn r hr).1) (by have:=E.rl;omega) s);have HE:=Lib.hid E;unfold refV;cases hw:wher R s with
  | some y =>
    obtain ⟨a,n⟩:=y;rw [hw] at HFI;have HFI:Hid (Calls Tryd.prog 84 #[.pointer (some ⟨q,4,none⟩),.string s] w fun e w'=>e = .returned (.tuple #[num a,num n,.bool true])∧MM.Far [] w w'):=HFI;clear E hw hs;simp only
    unfold num at *;unfold ptr at *;go_enter Tryd.func72,Tryd.ntmps72
    go_wp2_with (go_at_call 84;refine HFI.out.mono ?_;rintro e w1 ⟨rfl,hF1⟩;have HF1:=Lib.hid hF1;clear hF1)
    go_ret3
    exact ⟨rfl,ScQ.same HE.out.sc HF1.out⟩
  | none =>
    rw [hw] at HFI;have HFI:Hid (Calls Tryd.prog 84 #[.pointer (some ⟨q,4,none⟩),.string s] w fun e w'=>e = .returned (.tuple #[num 0,num 0,.bool false])∧MM.Far [] w w'):=HFI;simp only
    by_cases ho:s∈C.own
    · rw [if_pos ho];obtain ⟨g1,g2,g3,g4,g5,g6⟩:=E.nk.put E.lz.gd.few (E.lz.gd.ownP ho);have HPU:=Lib.hid (fun (w1:World) (f:MM.Far [] w w1)=>put_sc (E.sc.to f) s (by unfold maxLen;omega));rw [g2] at HPU;have hcnt:0 < ownC C s:=List.count_pos_iff.2 ho;have HCN:=Lib.hid hcnt;generalize NP.putI N s=pi at *;generalize NP.putL N s=N2 at *;clear E hw hs g1 g2 g3 g4 g5 g6 ho hcnt;unfold num at *;unfold ptr at *;go_enter Tryd.func72,Tryd.ntmps72
      go_wp2_with (first
        | (go_at_call 84;refine HFI.out.mono ?_;rintro e w1 ⟨rfl,hF1⟩;have HF1:=Lib.hid hF1;have HP1:=Lib.hid (HPU.out w1 hF1);obtain ⟨c3,c2,hlook⟩:=(HE.out.sc.to hF1).look s;have hgt:(0:Int) < ((ownC C s:Nat):Int):=by { have:=HCN.out;omega };clear hF1)
        | (go_at_call 76;refine HP1.out.mono ?_;rintro e w2 ⟨rfl,hQ⟩;have HQ:=Lib.hid hQ;clear hQ))
      go_ret3
      exact ⟨rfl,ScQ.from HF1.out HQ.out⟩
    · rw [if_neg ho];have hcnt:ownC C s=0:=List.count_eq_zero_of_not_mem ho;have HCN:=Lib.hid hcnt;have HIP:=Lib.hid (fun (w1:World) (f:MM.Far [] w w1)=>isPrim_any ((E.lz.pt.far E.sc.farz).far f) s);unfold noName;obtain ⟨bp,hbp⟩:∃ bp,isPrim s=bp:=⟨_,rfl⟩
      rw [hbp] at HIP ⊢;clear E hw hs ho hcnt hbp;unfold num at *;unfold ptr at *;cases bp with
      | true =>
        rw [if_pos rfl];go_enter Tryd.func72,Tryd.ntmps72
        go_wp2_with (first
          | (go_at_call 84;refine HFI.out.mono ?_;rintro e w1 ⟨rfl,hF1⟩;have HF1:=Lib.hid hF1;have HI1:=Lib.hid (HIP.out w1 hF1);obtain ⟨c3,c2,hlook⟩:=(HE.out.sc.to hF1).look s;rw [HCN.out] at hlook;clear hF1)
          | (go_at_call 75;refine HI1.out.mono ?_;rintro e w2 ⟨rfl,hF2⟩;have HF2:=Lib.hid hF2;clear hF2))
        go_ret3
        exact ⟨rfl,ScQ.same HE.out.sc (HF1.out.trans HF2.out (by simp))⟩
      | false =>
        rw [if_neg (by decide)];go_enter Tryd.func72,Tryd.ntmps72
        go_wp2_with (first
          | (go_at_call 84;refine HFI.out.mono ?_;rintro e w1 ⟨rfl,hF1⟩;have HF1:=Lib.hid hF1;have HI1:=Lib.hid (HIP.out w1 hF1);obtain ⟨c3,c2,hlook⟩:=(HE.out.sc.to hF1).look s;rw [HCN.out] at hlook;clear hF1)
          | (go_at_call 75;refine HI1.out.mono ?_;rintro e w2 ⟨rfl,hF2⟩;have HF2:=Lib.hid hF2;clear hF2))
        go_ret3
        exact ⟨rfl,ScQ.same HE.out.sc (HF1.out.trans HF2.out (by simp))⟩
end
end SM
end Go.Proofs.YtodjaabcjojlkaaDoor
namespace Go.Proofs.YtodjaabcjojlkaaDoor
open Go.RowKit
set_option linter.unusedVariables false
namespace SM
open LX SX RW6 EX SC
open EW (Sl Bx ptr num strs bx_new z_alloc sz_alloc z_far z_drew made_list sl_new keep2 keep3 keep4 ints_len int_head NdR FmR Bx.cons)
section
variable {w0 w w1 W:World} {Y Z:List Nat} {q g:Nat} {h:Hd} {C:Cx} {K:List ByteArray} {R:Rws} {N:List ByteArray}
set_option maxHeartbeats 4000000 in
set_option maxRecDepth 20000 in
theorem called_any (E:Ev w0 w Y Z q g h C K R N) (f:Fm) {PA LA:Option Addr} {np pc m lc:Nat} (hs:f.s.size≤140737488355328) :
    Calls Tryd.prog 77 #[ptr q,fmV f (.slice PA np pc) (.slice LA m lc)] w fun e w'=>e = .returned (.tuple #[num (if callsPrim C R f=true then (primO f.s:Int) else 0),num (if callsPrim C R f=true then (primK f.s:Int) else 0),.bool (callsPrim C R f)])∧MM.Far [] w w':=by
  obtain ⟨fk,fa,fn,fs,fp,l⟩:=f;unfold fmV;simp only
  obtain ⟨k,hk⟩:∃ k,w.heap.size=k:=⟨_,rfl⟩
  obtain ⟨OB,hOB⟩:∃ o:Obj,.cells #[.int .u8 fk,num fa,num fn,num 0,.string fs,.slice PA np pc,.int .u64 0,.slice LA m lc] 33=o:=⟨_,rfl⟩
  obtain ⟨W,hW⟩:∃ W,w.alloc OB=W:=⟨_,rfl⟩
  have F0:MM.Far [] w W:=by rw [← hW];exact (MM.Far.refl [] w).alloc _
  have BL:MM.Row W k 33 [.int .u8 fk,num fa,num fn,num 0,.string fs,.slice PA np pc,.int .u64 0,.slice LA m lc]:=by
    rw [← hW,← hOB];exact EW.row_new 33 _ hk
  have z0:=BL.at (i:=0) rfl;have z4:=BL.at (i:=4) rfl;have HF:=Lib.hid F0;have HK:=Lib.hid hk;have EW1:=E.sc.to F0;obtain ⟨c3,c2,hlook0⟩:=EW1.look fs;obtain ⟨-,-,hlook⟩:=(EW1.to ((MM.Far.refl [] W).drew)).look fs;have HFI:=Lib.hid (fun (w1:World) (f:MM.Far [] W w1)=>find_any (EW1.to f) (fun r hr=>(E.rn r hr).1) (by have:=E.rl;omega) fs);have HPR:=Lib.hid (fun (w1:World) (f:MM.Far [] W w1)=>prim_any ((E.lz.pt.far E.sc.farz).far (F0.trans f (by simp))) fs);have hcp:callsPrim C R ⟨fk,fa,fn,fs,fp,l⟩=(decide (fk=4) && !decide (fs∈C.own) && (wher R fs).isNone && isPrim fs):=rfl;rw [hcp];by_cases k4:fk=4
  · subst k4;by_cases ho:fs∈C.own
    · have hcnt:0 < ownC C fs:=List.count_pos_iff.2 ho;have hgt:(0:Int) < ((ownC C fs:Nat):Int):=by omega
      have e1:(decide ((4:Int)=4) && !decide (fs∈C.own) && (wher R fs).isNone && isPrim fs)=false:=by simp [ho]
      rw [e1];simp only [Bool.false_eq_true,if_false]
      clear E EW1 hcp ho hcnt e1 F0 BL hlook0 HFI HPR hs;subst hW;subst hOB;subst hk;unfold num at *;unfold ptr at *;go_enter Tryd.func77,Tryd.ntmps77
      go_wp2;generalize w.alloc (.cells #[.int .u8 4,.int .i64 fa,.int .i64 fn,.int .i64 0,.string fs,.slice PA np pc,.int .u64 0,.slice LA m lc] 33)=W at *;go_region
      all_goals
        go_wp2;go_ret3
        exact ⟨rfl,HF.out.drew⟩
    · have hcnt:ownC C fs=0:=List.count_eq_zero_of_not_mem ho;rw [hcnt] at hlook;have e1:(decide ((4:Int)=4) && !decide (fs∈C.own) && (wher R fs).isNone && isPrim fs)=((wher R fs).isNone && isPrim fs):=by simp [ho]
      rw [e1];have HSC:=Lib.hid EW1;clear E EW1 hcp ho hcnt e1 F0 BL hlook0 hs;cases hw:wher R fs with
      | some y =>
        obtain ⟨a,n⟩:=y;rw [hw] at HFI;have HFI:Hid (∀ w1,MM.Far [] W w1→Calls Tryd.prog 84 #[.pointer (some ⟨q,4,none⟩),.string fs] w1 fun e w'=>e = .returned (.tuple #[num a,num n,.bool true])∧MM.Far [] w1 w'):=HFI;simp only [Option.isNone,Bool.false_and,Bool.false_eq_true,if_false]
        clear hw HPR;subst hW;subst hOB;subst hk;unfold num at *;unfold ptr at *;go_enter Tryd.func77,Tryd.ntmps77
        go_wp2;generalize w.alloc (.cells #[.int .u8 4,.int .i64 fa,.int .i64 fn,.int .i64 0,.string fs,.slice PA np pc,.int .u64 0,.slice LA m lc] 33)=W at *;go_region
        go_wp2
        go_region_held3 (fun w'=>w'.cell? ⟨w.heap.size,4,none⟩=some (.string fs)) (first | (with_reducible assumption) | go_keep) (first
          | (go_at_call 84;(with_reducible refine (HFI.out _ ((MM.Far.refl [] W).drew.drew)).mono ?_);rintro e w1 ⟨rfl,hF1⟩;have hk1:=farC hF1 (by assumption);have HF1:=Lib.hid (((MM.Far.refl [] W).drew.drew).trans hF1 (by simp));clear hF1))
        go_wp2;go_ret3
        exact ⟨rfl,HF.out.trans HF1.out (by simp)⟩
      | none =>
        rw [hw] at HFI;have HFI:Hid (∀ w1,MM.Far [] W w1→Calls Tryd.prog 84 #[.pointer (some ⟨q,4,none⟩),.string fs] w1 fun e w'=>e = .returned (.tuple #[num 0,num 0,.bool false])∧MM.Far [] w1 w'):=HFI;simp only [Option.isNone,Bool.true_and]
        have e2:(if isPrim fs=true then (primO fs:Int) else 0)=(primO fs:Int):=by
          by_cases hb:isPrim fs=true
          · rw [if_pos hb]
          · rw [if_neg hb];unfold isPrim at hb;unfold primO;rw [if_neg (by simpa using hb)];rfl
        have e3:(if isPrim fs=true then (primK fs:Int) else 0)=(primK fs:Int):=by
          by_cases hb:isPrim fs=true
          · rw [if_pos hb]
          · rw [if_neg hb];unfold isPrim at hb;unfold primK;rw [if_neg (by simpa using hb)];rfl
        rw [e2,e3];clear hw e2 e3;subst hW;subst hOB;subst hk;unfold num at *;unfold ptr at *;go_enter Tryd.func77,Tryd.ntmps77
        go_wp2;generalize w.alloc (.cells #[.int .u8 4,.int .i64 fa,.int .i64 fn,.int .i64 0,.string fs,.slice PA np pc,.int .u64 0,.slice LA m lc] 33)=W at *;go_region
        go_wp2
        go_region_held3 (fun w'=>w'.cell? ⟨w.heap.size,4,none⟩=some (.string fs)) (first | (with_reducible assumption) | go_keep) (first
          | (go_at_call 84;(with_reducible refine (HFI.out _ ((MM.Far.refl [] W).drew.drew)).mono ?_);rintro e w1 ⟨rfl,hF1⟩;have hk1:=farC hF1 (by assumption);have HF1:=Lib.hid (((MM.Far.refl [] W).drew.drew).trans hF1 (by simp));clear hF1))
        go_wp2_with (go_at_call 86;(with_reducible refine (HPR.out _ HF1.out).mono ?_);rintro e w2 ⟨rfl,hF2⟩;have HF2:=Lib.hid hF2;clear hF2)
        go_ret3
        exact ⟨rfl,(HF.out.trans HF1.out (by simp)).trans HF2.out (by simp)⟩
  · have hne:(fk != 4)=true:=by simp [k4]
    have hd:decide (¬ fk=4)=true:=by simp [k4]
    have e1:(decide (fk=4) && !decide (fs∈C.own) && (wher R fs).isNone && isPrim fs)=false:=by simp [k4]
    rw [e1];simp only [Bool.false_eq_true,if_false]
    clear E EW1 hcp e1 F0 BL hlook0 HFI HPR hs;subst hW;subst hOB;subst hk;unfold num at *;unfold ptr at *;go_enter Tryd.func77,Tryd.ntmps77
    go_wp2;generalize w.alloc (.cells #[.int .u8 fk,.int .i64 fa,.int .i64 fn,.int .i64 0,.string fs,.slice PA np pc,.int .u64 0,.slice LA m lc] 33)=W at *;go_region
    all_goals
      go_wp2;go_ret3
      exact ⟨rfl,HF.out.drew⟩
end
end SM
end Go.Proofs.YtodjaabcjojlkaaDoor
