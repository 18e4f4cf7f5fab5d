/-
  Several texts in one: ScoC6,ScoC7,ScoC8.
-/
import Derived.Test.YtodjaabcjojlkaaDoorQScoTab
import Derived.Test.YtodjaabcjojlkaaDoorQExpDta
import Derived.Test.YtodjaabcjojlkaaDoorQScoGd
import Derived.Test.YtodjaabcjojlkaaDoorQScoDx
namespace Go.Proofs.YtodjaabcjojlkaaDoor
open Go.RowKit
set_option linter.unusedVariables false
namespace SM
open LX RW6 EX SC
open EW (Sl Bx ptr num strs bx_new z_alloc sz_alloc z_far z_drew made_list sl_new keep2 keep3 keep4 ints_len int_head)
theorem parts_slice:Tryd.prog.underlying 98=some (.slice 96):=by kernel_rfl
theorem part_info:(Tryd.prog.info? 96).map (fun i=>(i.zero,i.size,i.bytes))=some (some .nilFunc,1,8):=by kernel_rfl
def PartsQ (w:World) (Z:List Nat) (q:Nat) (ps:List Sp) (e:Ending) (w':World):Prop:=∃ g m vs,e = .returned (.slice (some ⟨g,0,none⟩) m m)∧m=ps.length∧Sl w' Z (.slice (some ⟨g,0,none⟩) m m) vs∧Ips w' Z q vs ps∧MM.Far [] w w'
theorem part_any (w:World) {Z:List Nat} (q:Nat) (hz:∀ b∈Z,b < w.heap.size) (i:Nat):Calls Tryd.prog 37 #[ptr q,num i] w fun e w'=>∃ v,e = .returned v∧Ip w' Z q v (.form i)∧MM.Far [] w w':=by
  have hB:=(bx_new 69 (ptr q) rfl hz).alloc (.cells #[num i] 3);have hB2:=bx_new 3 (num i) (sz_alloc w (.cells #[ptr q] 69)) (z_alloc hz);have HI:=Lib.hid (Ip.form (q:=q) hB hB2);clear hB hB2 hz;unfold num ptr at HI ⊢;go_enter Tryd.func37,Tryd.ntmps37
  go_wp2;go_ret
  exact ⟨_,rfl,HI.out,((MM.Far.refl [] w).alloc _).alloc _⟩
def AllI (w:World) (Z:List Nat) (q b:Nat) (l:List Nat) (k:Nat) (wr:World):Prop :=
  ∃ vs,vs.length=k∧MM.Row wr b 96 (vs++List.replicate (l.length - k) .nilFunc)∧Ips wr (b::Z) q vs ((l.take k).map .form)∧MM.Far [] w wr∧w.heap.size≤b
set_option maxHeartbeats 2000000 in
set_option maxRecDepth 20000 in
theorem all_any (w:World) {Z:List Nat} (q:Nat) (hz:∀ b∈Z,b < w.heap.size) {A:Option Addr} {m lc:Nat} {l:List Nat} (hl:Sl w Z (.slice A m lc) (ints l)) (hm:l.length=m) (hmx:m≤1099511627776) :
    Calls Tryd.prog 79 #[ptr q,.slice A m lc] w (PartsQ w Z q (l.map .form)):=by
  have HL:=Lib.hid hl;have HM:=Lib.hid hm;have HZ:=Lib.hid hz;clear hl hm hz;unfold ptr;go_enter Tryd.func79,Tryd.ntmps79
  have hmk:=run_make_row' (P:=Tryd.prog) 98 96 .nilFunc 8 parts_slice part_info rfl .i64 .i64 m (by omega) (by omega);rw [EW.made_list] at hmk;go_wp2;clear hmk;have HI0:Hid (AllI w Z q w.heap.size l 0 (w.alloc (.cells (List.replicate m .nilFunc).toArray 96))):=Lib.hid
    ⟨[],rfl,by rw [HM.out];exact MM.Row.new w 96 (List.replicate m .nilFunc),Ips.nil _ _ _,(MM.Far.refl [] w).alloc _,Nat.le_refl _⟩
  obtain ⟨b,hb⟩:∃ b,w.heap.size=b:=⟨_,rfl⟩
  rw [hb] at HI0 ⊢;have HB:=Lib.hid hb;clear hb
  go_loopw [13] (fun s13 wr=>∃ k:Nat,k≤m∧s13 = .int .i64 (k:Int)∧Hid (AllI w Z q b l k wr)) (fun s13 _=>m - (intOf s13).toNat)
  case atStart=>exact ⟨0,by omega,rfl,HI0⟩
  case round =>
    obtain ⟨k,hk,rfl,hH⟩:=hrel;obtain ⟨vs,hvs,hR,hI,hF,hb⟩:=hH.out;clear hH HI0;have HV:=Lib.hid hvs;have HR:=Lib.hid hR;have HI:=Lib.hid hI;have HF:=Lib.hid hF;have HBS:=Lib.hid hb;clear hvs hR hI hF hb;by_cases hlt:k < m
    · have hk2:k < l.length:=by rw [HM.out];exact hlt
      obtain ⟨A',c',e,hc1,hc2,hc3⟩:=HL.out.far HF.out (by simp);injection e with e1 e2 e3;subst e1 e3;obtain ⟨g,o,rfl,hz,hg,cc⟩:=hc3 k (.int .i64 ((l[k]:Nat):Int)) (by unfold ints;rw [List.getElem?_map,List.getElem?_eq_getElem hk2];rfl);have HT:Hid (l.take (k+1)=l.take k++[l[k]]):=Lib.hid (by rw [List.take_add_one,List.getElem?_eq_getElem hk2];rfl);have HC:=Lib.hid (part_any wr (Z:=b::Z) q (fun x hx=>by
        rcases List.mem_cons.1 hx with rfl | hx
        · exact HR.out.lt
        · exact z_far HZ.out HF.out x hx) l[k])
      generalize l[k]=i at *;clear hk2 e2 hc1 hc2 hc3 hz hg;have HCK:Hid ((vs++List.replicate (l.length - k) Value.nilFunc)[k]? = some .nilFunc):=Lib.hid (by
        rw [List.getElem?_append_right (by rw [HV.out];omega),HV.out,Nat.sub_self,List.getElem?_replicate,if_pos (by rw [HM.out];omega)])
      unfold num ptr at HC
      go_wp2_with (go_at_call 37;refine HC.out.mono ?_;rintro e w1 ⟨v,rfl,hIv,hF1⟩;have HIv:=Lib.hid hIv;have HF1:=Lib.hid hF1;clear hIv hF1;have HR1:=Lib.hid (HR.out.far HF1.out (by simp));have hfz:=HR1.out.frozen k;have hck:=HR1.out.at (i:=k) HCK.out;obtain ⟨vf,vl,rfl⟩:=HIv.out.func)
      go_roundw
      case rel =>
        refine ⟨k+1,by omega,by go_num,Lib.hid ⟨vs++[.func (.func vf) #[] vl],by rw [List.length_append,HV.out];rfl,?_,?_,?_,HBS.out⟩⟩
        · have:=HR1.out.put k (.func (.func vf) #[] vl);rw [List.set_append_right _ _ (by rw [HV.out];omega),HV.out,Nat.sub_self,show l.length - k=(l.length - (k+1))+1 by rw [HM.out];omega,List.replicate_succ,List.set_cons_zero] at this;rw [List.append_assoc];exact this
        · rw [HT.out,List.map_append];have g:=(MM.Far.refl [b] w1).setCell (p:=⟨b,k,none⟩) (by simp) (.func (.func vf) #[] vl);exact ((HI.out.far HF1.out (by simp)).far g (by simp)).snoc (HIv.out.far g (by simp))
        · exact (HF.out.trans HF1.out (by simp)).setCell (fun hl=>by have:=HBS.out;simp only at hl;omega) _
      case measure=>simp [intOf];omega
    · obtain rfl:k=m:=by omega
      have HQ:Hid (PartsQ w Z q (l.map .form) (.returned (.slice (some ⟨b,0,none⟩) k k)) wr):=Lib.hid (by
        have hlen:vs.length=l.length:=by rw [HV.out,HM.out]
        have hR:=HR.out;rw [HM.out,Nat.sub_self,List.replicate_zero,List.append_nil] at hR;refine ⟨_,_,vs,rfl,by rw [List.length_map,HM.out],?_,?_,HF.out⟩
        · rw [← HV.out];exact Sl.row hR (fun hm=>by have h1:=HZ.out b hm;have h2:=HBS.out;omega) (by rw [HV.out];unfold maxLen;omega)
        · have:=HI.out;rw [← HM.out,List.take_length] at this;exact this.more (fun x hx=>.inl (List.mem_cons_of_mem _ hx)))
      go_wp2;go_ret
      exact HQ.out
def fmV (f:Fm) (pv lv:Value):Value:=.agg #[.int .u8 f.kind,num f.at_,num f.n,num 0,.string f.s,pv,.int .u64 0,lv]
set_option maxHeartbeats 4000000 in
set_option maxRecDepth 20000 in
theorem keep_any (w:World) {Z:List Nat} (q:Nat) (hz:∀ b∈Z,b < w.heap.size) (f:Fm) (R:Rws) {PA LA:Option Addr} {np pc m lc:Nat} (hl:Sl w Z (.slice LA m lc) (ints f.l)) (hm:f.l.length=m) (hmx:m≤1099511627776) :
    Calls Tryd.prog 66 #[ptr q,fmV f (.slice PA np pc) (.slice LA m lc)] w (SnQ w Z q (.mk ⟨f.kind,f.at_,0,0,emp,0,[]⟩ R (f.l.map .form))):=by
  obtain ⟨fk,fa,fn,fs,fp,l⟩:=f;unfold fmV;simp only at hl hm ⊢
  obtain ⟨k,hk⟩:∃ k,w.heap.size=k:=⟨_,rfl⟩
  obtain ⟨OB,hOB⟩:∃ o:Obj,.cells #[.int .u8 fk,num fa,num fn,num 0,.string fs,.slice PA np pc,.int .u64 0,.slice LA m lc] 33=o:=⟨_,rfl⟩
  obtain ⟨W,hW⟩:∃ W,(w.alloc OB).alloc zS=W:=⟨_,rfl⟩
  have F0:MM.Far [] w W:=by rw [← hW];exact ((MM.Far.refl [] w).alloc _).alloc _
  have BL:MM.Row W k 33 [.int .u8 fk,num fa,num fn,num 0,.string fs,.slice PA np pc,.int .u64 0,.slice LA m lc]:=by
    rw [← hW,← hOB];exact (EW.row_new 33 _ hk).alloc _
  have HB:Hid (SnBox W (k+1)):=Lib.hid (by rw [← hW];exact SnBox.new (by rw [sz_alloc,hk]));have MZ:∀ x∈(k+1)::Z,x∈Z∨w.heap.size≤x:=fun x hx=>(List.mem_cons.1 hx).elim (fun e=>.inr (by omega)) .inl
  have hzW:∀ x∈(k+1)::Z,x < W.drew.heap.size:=fun x hx=>by
    rcases List.mem_cons.1 hx with rfl | hx
    · exact HB.out.lt
    · exact Nat.lt_of_lt_of_le (hz x hx) F0.size
  have HC:=Lib.hid (all_any W.drew q hzW ((hl.more MZ).far F0.drew (by simp)) hm hmx);have z0:=BL.at (i:=0) rfl;have z1:=BL.at (i:=1) rfl;have z7:=BL.at (i:=7) rfl;have HF:=Lib.hid F0;have HK:=Lib.hid hk;clear hl hz MZ hzW F0 BL hm;subst hW;subst hOB;subst hk;unfold zS num at *;unfold ptr at *;go_enter Tryd.func66,Tryd.ntmps66
  go_wp2;generalize (w.alloc (.cells #[.int .u8 fk,.int .i64 fa,.int .i64 fn,.int .i64 0,.string fs,.slice PA np pc,.int .u64 0,.slice LA m lc] 33)).alloc (.cells #[.int .i64 0,.int .u8 0,.int .i64 0,.int .i64 0,.int .i64 0,.string ⟨#[]⟩,.slice none 0 0,.int .u64 0,.slice none 0 0,.slice none 0 0] 100)=W at *
  go_region_held3 (fun w'=>w'.cell? ⟨w.heap.size,0,none⟩=some (.int .u8 fk)∧w'.cell? ⟨w.heap.size,1,none⟩=some (.int .i64 fa)∧w'.cell? ⟨w.heap.size,7,none⟩=some (.slice LA m lc)) (first | (with_reducible assumption) | go_keep) (first
    | (go_at_call 79;(with_reducible refine HC.out.mono ?_);rintro e w1 ⟨g1,m2,vs,rfl,hm1,hS1,hI1,hF1⟩;have hk1:=keep3 hF1 (by assumption);have HF1:=Lib.hid (((MM.Far.refl [] W).drew).trans hF1 (by simp));have HB1:=Lib.hid (HB.out.far HF1.out (by simp));have HS1:=Lib.hid hS1;have HI1:=Lib.hid hI1;clear hF1 hS1 hI1 hm1;obtain ⟨v0,v1,v2,v3,v4,v5,v6,v7,v8,v9,y0,y1,y2,y3,y4,y5,y6,y7,y8,y9,hfz⟩:=HB1.out.cells))
  go_wp2;exact fin_sn rfl rfl rfl HB1.out (HF.out.trans HF1.out (by simp)) (by omega) ⟨rfl,_,vs,rfl,HS1.out,HI1.out⟩
end SM
end Go.Proofs.YtodjaabcjojlkaaDoor
namespace Go.Proofs.YtodjaabcjojlkaaDoor
open Go.RowKit
set_option linter.unusedVariables false
namespace SM
open LX RW6 EX SC
open EW (Sl Bx ptr num strs bx_new z_alloc sz_alloc z_far z_drew made_list sl_new keep2 keep3 keep4 ints_len int_head NdR FmR Bx.cons)
set_option maxHeartbeats 4000000 in
set_option maxRecDepth 20000 in
theorem quoteList_any (w:World) {Z:List Nat} (q:Nat) (hz:∀ b∈Z,b < w.heap.size) (a:Int) (R:Rws) {A:Option Addr} {m lc:Nat} {l:List Nat} (hl:Sl w Z (.slice A m lc) (ints l)) (hm:l.length=m) :
    Calls Tryd.prog 71 #[ptr q,num a,.slice A m lc] w (SnQ w Z q (quoL R a l)):=by
  obtain ⟨k,hk⟩:∃ k,w.heap.size=k:=⟨_,rfl⟩
  obtain ⟨W,hW⟩:∃ W,(((w.alloc (.cells #[ptr q] 69)).alloc (.cells #[num a] 3)).alloc (.cells #[.slice A m lc] 24)).alloc zS=W:=⟨_,rfl⟩
  have F0:MM.Far [] w W:=by rw [← hW];exact ((((MM.Far.refl [] w).alloc _).alloc _).alloc _).alloc _
  have B1:Bx W ((k+1+1+1)::Z) k 69 (ptr q):=Bx.cons (by rw [← hW];exact (((((bx_new 69 (ptr q) hk hz).alloc _).alloc _).alloc _))) (by omega);have B2:Bx W ((k+1+1+1)::Z) (k+1) 3 (num a):=Bx.cons (by rw [← hW];exact (((bx_new 3 (num a) (by simp only [sz_alloc,hk]) (z_alloc hz)).alloc _).alloc _)) (by omega);have B3:Bx W ((k+1+1+1)::Z) (k+1+1) 24 (.slice A m lc):=Bx.cons (by rw [← hW];exact ((bx_new 24 (.slice A m lc) (by simp only [sz_alloc,hk]) (z_alloc (z_alloc hz))).alloc _)) (by omega);have HB:Hid (SnBox W (k+1+1+1)):=Lib.hid (by rw [← hW];exact SnBox.new (by simp only [sz_alloc,hk]));have MZ:∀ x∈(k+1+1+1)::Z,x∈Z∨w.heap.size≤x:=fun x hx=>(List.mem_cons.1 hx).elim (fun e=>.inr (by omega)) .inl
  have hzW:∀ x∈(k+1+1+1)::Z,x < W.heap.size:=fun x hx=>by
    rcases List.mem_cons.1 hx with rfl | hx
    · exact HB.out.lt
    · exact Nat.lt_of_lt_of_le (hz x hx) F0.size
  have hsW:W.heap.size=k+1+1+1+1:=by rw [← hW];simp only [sz_alloc,hk]
  have HF:=Lib.hid F0;have HK:=Lib.hid hk;have x2:=B2.at;have x3:=B3.at;cases l with
  | nil =>
    have hm0:((m:Nat):Int)=0:=by rw [← hm];rfl
    have hm1:m=0:=hm.symm;subst hm1;have HC:=Lib.hid (constant_any W (Z:=(k+1+1+1)::Z) q a 2 R);clear hl hz F0 MZ B1 B2 B3 hm hzW hsW hm0;subst hW;subst hk;unfold zS num at *;unfold ptr at *;go_enter Tryd.func71,Tryd.ntmps71
    go_wp2_with (first
      | (go_at_call 58;refine HC.out.mono ?_;rintro e w1 ⟨v,rfl,hI,hF⟩;obtain ⟨e1,f1,A1,m1,c1,rfl,hl1⟩:=hI.form;have HI1:=Lib.hid hI;have HF1:=Lib.hid hF;have HB1:=Lib.hid (HB.out.far hF (by simp));clear hI hF;obtain ⟨v0,v1,v2,v3,v4,v5,v6,v7,v8,v9,y0,y1,y2,y3,y4,y5,y6,y7,y8,y9,hfz⟩:=HB1.out.cells;obtain ⟨fk,fa,fn,fA,fs,fw,fl⟩:=f1;simp only at hl1;subst hl1;unfold snV num))
    exact fin_sn rfl rfl rfl HB1.out (HF.out.trans HF1.out (by simp)) (by omega) HI1.out
  | cons i l =>
    have hm0:¬ ((m:Nat):Int)=0:=by rw [← hm,List.length_cons];omega
    obtain ⟨m1,rfl⟩:∃ m1,m=m1+1:=⟨l.length,by rw [← hm,List.length_cons]⟩
    have hS:=(hl.more MZ).far F0 (by simp);have I1:Ip W ((k+1+1+1)::Z) q (.func (.func 82) #[] #[ptr k,ptr (k+1),ptr (k+1+1)]) (.qd a i):=.qd B1 B2 B3 hS;have I2:Ip W ((k+1+1+1)::Z) q (.func (.func 83) #[] #[ptr k,ptr (k+1),ptr (k+1+1)]) (.ql a l):=.ql B1 B2 B3 hS;obtain ⟨W2,hW2⟩:∃ W2,W.alloc (.cells #[.func (.func 82) #[] #[ptr k,ptr (k+1),ptr (k+1+1)],.func (.func 83) #[] #[ptr k,ptr (k+1),ptr (k+1+1)]] 96)=W2:=⟨_,rfl⟩
    have F2:MM.Far [] W W2:=by rw [← hW2];exact (MM.Far.refl [] W).alloc _
    have SL:Sl W2 ((k+1+1+1)::Z) (.slice (some ⟨k+1+1+1+1,0,none⟩) 2 2) [.func (.func 82) #[] #[ptr k,ptr (k+1),ptr (k+1+1)],.func (.func 83) #[] #[ptr k,ptr (k+1),ptr (k+1+1)]]:=by
      rw [← hW2];exact sl_new 96 _ hsW rfl (by decide) hzW
    have IP:Ips W2 ((k+1+1+1)::Z) q [.func (.func 82) #[] #[ptr k,ptr (k+1),ptr (k+1+1)],.func (.func 83) #[] #[ptr k,ptr (k+1),ptr (k+1+1)]] [.qd a i,.ql a l]:=Ips.cons (I1.far F2 (by simp)) (Ips.cons (I2.far F2 (by simp)) (Ips.nil _ _ _));have HC:=Lib.hid (primOf_any W2 q a 12 R SL IP);have HF2:=Lib.hid F2;have HSW:=Lib.hid hsW;clear hl hz F0 MZ B1 B2 B3 hm hzW hsW hS I1 I2 F2 SL IP;have e4:W.heap.size=w.heap.size+1+1+1+1:=by rw [HSW.out,HK.out]
    subst hW2;subst hW;subst hk;unfold zS num at *;unfold ptr at *;go_enter Tryd.func71,Tryd.ntmps71
    go_wp2_with (first
      | (go_at_call 78;refine HC.out.mono ?_;rintro e w1 ⟨v,rfl,hI,hF⟩;obtain ⟨e1,f1,A1,m1,c1,rfl,hl1⟩:=hI.form;have HI1:=Lib.hid hI;have HF1:=Lib.hid hF;have HB1:=Lib.hid ((HB.out.far HF2.out (by simp)).far hF (by simp));clear hI hF;obtain ⟨v0,v1,v2,v3,v4,v5,v6,v7,v8,v9,y0,y1,y2,y3,y4,y5,y6,y7,y8,y9,hfz⟩:=HB1.out.cells;obtain ⟨fk,fa,fn,fA,fs,fw,fl⟩:=f1;simp only at hl1;subst hl1;unfold snV num))
    exact fin_sn rfl rfl rfl HB1.out ((HF.out.trans HF2.out (by simp)).trans HF1.out (by simp)) (by omega) HI1.out
end SM
end Go.Proofs.YtodjaabcjojlkaaDoor
namespace Go.Proofs.YtodjaabcjojlkaaDoor
open Go.RowKit
set_option linter.unusedVariables false
namespace SM
open LX SX RW6 EX SC
open EW (Sl Bx ptr num strs bx_new z_alloc sz_alloc z_far z_drew made_list sl_new keep2 keep3 keep4 ints_len int_head NdR FmR Bx.cons)
structure Lz (w0:World) (h:Hd) (C:Cx) (K:List ByteArray):Prop where
  gd:Gd C K
  pt:PT w0
  dat:∃ A c,h.dv = .slice A C.ns.length c∧NdR w0 A C.ns
  frm:∃ A c,h.lv = .slice A C.fs.length c∧FmS w0 A C.fs
  few:∀ i,(ndAt C.ns i).l.length≤100000
  fl:∀ i,(fmAt C.fs i).l.length≤100000
def ownC (C:Cx):ByteArray→Nat:=fun s=>C.own.count s
structure Ev (w0 w:World) (Y Z:List Nat) (q g:Nat) (h:Hd) (C:Cx) (K:List ByteArray) (R:Rws) (N:List ByteArray):Prop where
  lz:Lz w0 h C K
  sc:Sc w0 w Y q g h (ownC C) R N
  nk:Nk K N
  rn:∀ r∈R,r.Nodup∧r.length≤100
  rl:R.length≤1000000000
  z:∀ b∈Z,b < w.heap.size
  low:∀ b∈Z,w0.heap.size≤b
  sub:∀ b∈Y,b∈Z
def EvQ (w0 w:World) (Y Z:List Nat) (q g:Nat) (h:Hd) (C:Cx) (R:Rws) (N:List ByteArray) (sn:Sn) (e:Ending) (w':World):Prop :=
  ∃ v Y',e = .returned v∧Yto w Y Y'∧MM.Far Y w w'∧Sc w0 w' Y' q g h (ownC C) R N∧Isn w' (Y'++Z) q v sn
structure Eb (w0 w:World) (Y:List Nat) (h:Hd):Prop where
  y:∀ b∈Y,b < w.heap.size
  dm:∀ d,h.dm = .map (some d)→d < w.heap.size
  w0:w0.heap.size≤w.heap.size
section
variable {w0 w w1 W:World} {Y Z:List Nat} {q g:Nat} {h:Hd} {C:Cx} {K:List ByteArray} {R:Rws} {N:List ByteArray}
theorem Sc.eb {own:ByteArray→Nat} (s:Sc w0 w Y q g h own R N):Eb w0 w Y h:=by
  obtain ⟨bv,im,mv,sv,S,s⟩:=s;exact ⟨s.lt,fun d e=>(s.yd d e).2,s.far.size⟩
theorem Sc.farz {own:ByteArray→Nat} (s:Sc w0 w Y q g h own R N):MM.Far [] w0 w:=by
  obtain ⟨bv,im,mv,sv,S,s⟩:=s;exact s.far
theorem Sc.qlt {own:ByteArray→Nat} (s:Sc w0 w Y q g h own R N):q∈Y:=by
  obtain ⟨bv,im,mv,sv,S,s⟩:=s;exact s.yq
theorem EvQ.of {sn:Sn} {e:Ending} {w':World} (s:Sc w0 w Y q g h (ownC C) R N) (hY:∀ b∈Y,b∈Z) (hq:SnQ w Z q sn e w'):EvQ w0 w Y Z q g h C R N sn e w':=by
  obtain ⟨v,h1,h2,h3⟩:=hq;exact ⟨v,Y,h1,Yto.refl _ _,h3.mono (by simp),s.to h3,h2.more (fun b hb=>(List.mem_append.1 hb).elim (fun h=>.inl (hY b h)) .inl)⟩
theorem Ev.to {Z':List Nat} (E:Ev w0 w Y Z q g h C K R N) (f:MM.Far [] w w1) (hZ:∀ b∈Z',b∈Z∨w.heap.size≤b) (hz:∀ b∈Z',b < w1.heap.size) (hs:∀ b∈Z,b∈Z'):Ev w0 w1 Y Z' q g h C K R N :=
  ⟨E.lz,E.sc.to f,E.nk,E.rn,E.rl,hz,fun b hb=>(hZ b hb).elim (E.low b) (fun h=>Nat.le_trans E.sc.farz.size h),fun b hb=>hs b (E.sub b hb)⟩
theorem Ev.box {k:Nat} (E:Ev w0 w Y Z q g h C K R N) (f:MM.Far [] w w1) (hk:w.heap.size≤k) (hk1:k < w1.heap.size):Ev w0 w1 Y (k::Z) q g h C K R N :=
  E.to f (fun b hb=>(List.mem_cons.1 hb).elim (fun e=>.inr (by omega)) .inl) (fun b hb=>(List.mem_cons.1 hb).elim (fun e=>by omega) (fun hb=>Nat.lt_of_lt_of_le (E.z b hb) f.size)) (fun b hb=>List.mem_cons_of_mem _ hb)
theorem Ev.datum (E:Ev w0 w Y Z q g h C K R N) {i:Nat} (hi:i < C.ns.length):∃ b o LA lc dc,h.dv = .slice (some ⟨b,o,none⟩) C.ns.length dc∧w.cell? ⟨b,o+i*5,none⟩=some (.int .u8 (ndAt C.ns i).kind) ∧
    w.cell? ⟨b,o+i*5+1,none⟩=some (.int .i64 (ndAt C.ns i).at_)∧w.cell? ⟨b,o+i*5+2,none⟩=some (.int .i64 (ndAt C.ns i).n)∧w.cell? ⟨b,o+i*5+3,none⟩=some (.string (ndAt C.ns i).s) ∧
    w.cell? ⟨b,o+i*5+4,none⟩=some (.slice LA (ndAt C.ns i).l.length lc)∧Sl w Z (.slice LA (ndAt C.ns i).l.length lc) (ints (ndAt C.ns i).l):=by
  obtain ⟨A,dc,edv,hN⟩:=E.lz.dat;rw [nd_in hi];obtain ⟨b,o,LA,lc,ea,hb,c0,c1,c2,c3,c4,k1,k2,hI⟩:=hN i hi;have g (x:Nat):w.cell? ⟨b,x,none⟩=w0.cell? ⟨b,x,none⟩:=E.sc.farz.cell (p:=⟨b,x,none⟩) hb (by simp);refine ⟨b,o,LA,lc,dc,by rw [edv,ea],(g _).trans c0,(g _).trans c1,(g _).trans c2,(g _).trans c3,(g _).trans c4,?_⟩
  have hlen:(ints C.ns[i].l).length=C.ns[i].l.length:=by unfold ints;rw [List.length_map]
  refine ⟨LA,lc,by rw [hlen],by rw [hlen];exact k1,⟨k2,fun _ _ _ _ _ _ _ u hu=>by unfold ints at hu;obtain ⟨x,_,rfl⟩:=List.mem_map.1 hu;exact ⟨_,rfl⟩⟩,fun k u hu=>?_⟩
  have hk:k < C.ns[i].l.length:=by have:=(List.getElem?_eq_some_iff.1 hu).1;omega
  obtain ⟨b',o',e',hb',hc'⟩:=hI k hk;refine ⟨b',o',e',fun hm=>?_,Nat.lt_of_lt_of_le hb' E.sc.farz.size,?_⟩
  · have:=E.low b' hm;omega
  · rw [E.sc.farz.cell (p:=⟨b',o'+k,none⟩) hb' (by simp),hc'];unfold ints at hu;rw [List.getElem?_map,List.getElem?_eq_getElem hk] at hu;exact hu
theorem Ev.formAt (E:Ev w0 w Y Z q g h C K R N) {i:Nat} (hi:i < C.fs.length):∃ b o PA pc LA lc fc,h.lv = .slice (some ⟨b,o,none⟩) C.fs.length fc∧w.cell? ⟨b,o+i*8,none⟩=some (.int .u8 (fmAt C.fs i).kind)∧w.cell? ⟨b,o+i*8+1,none⟩=some (.int .i64 (fmAt C.fs i).at_)∧w.cell? ⟨b,o+i*8+2,none⟩=some (.int .i64 (fmAt C.fs i).n) ∧
    w.cell? ⟨b,o+i*8+3,none⟩=some (.int .i64 0)∧w.cell? ⟨b,o+i*8+4,none⟩=some (.string (fmAt C.fs i).s)∧w.cell? ⟨b,o+i*8+5,none⟩=some (.slice PA (fmAt C.fs i).p.length pc)∧w.cell? ⟨b,o+i*8+6,none⟩=some (.int .u64 0) ∧
    w.cell? ⟨b,o+i*8+7,none⟩=some (.slice LA (fmAt C.fs i).l.length lc)∧Sl w Z (.slice PA (fmAt C.fs i).p.length pc) (strs (fmAt C.fs i).p)∧Sl w Z (.slice LA (fmAt C.fs i).l.length lc) (ints (fmAt C.fs i).l)∧b∉Z:=by
  obtain ⟨A,fc,edv,hN⟩:=E.lz.frm;rw [fm_in hi];obtain ⟨b,o,PA,pc,LA,lc,ea,hb,c0,c1,c2,c3,c4,c5,c6,c7,hP,hI⟩:=hN i hi;have g (x:Nat):w.cell? ⟨b,x,none⟩=w0.cell? ⟨b,x,none⟩:=E.sc.farz.cell (p:=⟨b,x,none⟩) hb (by simp);have hm:∀ x∈Z,x∈([]:List Nat)∨w0.heap.size≤x:=fun x hx=>.inr (E.low x hx)
  exact ⟨b,o,PA,pc,LA,lc,fc,by rw [edv,ea],(g _).trans c0,(g _).trans c1,(g _).trans c2,(g _).trans c3,(g _).trans c4,(g _).trans c5,(g _).trans c6,(g _).trans c7,(hP.more hm).far E.sc.farz (by simp),(hI.more hm).far E.sc.farz (by simp),fun hx=>by have:=E.low b hx;omega⟩
theorem put_sc {own:ByteArray→Nat} (s:Sc w0 w Y q g h own R N) (x:ByteArray) (hx:x.size≤maxLen):Calls Tryd.prog 76 #[ptr g,.string x] w fun e w'=>e = .returned (.tuple #[.int .i64 (NP.putI N x),.int .i64 (NP.putE N x)])∧ScQ w0 w Y q g h own R (NP.putL N x) w':=by
  obtain ⟨bv,im,mv,sv,S,s⟩:=s;refine (NW.put_any s.nm x hx).mono fun e w' ⟨h1,h2⟩=>⟨h1,?_⟩
  obtain ⟨Y',mv',sv',S',k1,k2,k3⟩:=s.put h2;exact ⟨Y',k1,k2,bv,im,mv',sv',S',k3⟩
theorem fin_ev {fn:Func} {a:Act} {w2:World} {b t:Nat} {Y':List Nat} {sn:Sn} {e kind at_ n aa wd:Int} {s:ByteArray} {parts:Value} (hr:fn.results=#[.cell t 100]) (ha:a.tmps.getD t undef = .pointer (some ⟨b,0,none⟩)) (hd:a.defers=[])
    (eb:Eb w0 w Y h) (hF:MM.Far [] w W) (hb:w.heap.size≤b) (hbW:b < W.heap.size) (hY:Yto W Y Y') (hF2:MM.Far Y W w2) (hS:Sc w0 w2 Y' q g h (ownC C) R N) (hB:SnBox w2 b) (hI:Isn w2 (Y'++b::Z) q (snV e ⟨kind,at_,n,aa,s,wd,[]⟩ parts) sn) :
    bodyPost Tryd.prog fn (EvQ w0 w Y Z q g h C R N sn) .ret a (setSn w2 b e kind at_ n aa s wd parts):=by
  have hbY:b∉Y':=fun hm=>by
    rcases hY.new b hm with h1 | h1
    · have:=eb.y b h1;omega
    · omega
  have f:=far_setSn w2 b e kind at_ n aa s wd parts;refine bodyPost_sn (f:=⟨kind,at_,n,aa,s,wd,[]⟩) hr ha hd (hB.set e kind at_ n aa s wd parts) ⟨_,Y',rfl,⟨hY.sub,fun x hx=>(hY.new x hx).imp id (fun h=>Nat.le_trans hF.size h)⟩,?_,hS.off f (fun x hx=>?_),?_⟩
  · exact ((hF.mono (S':=Y) (by simp)).trans hF2 (fun x hx _=>hx)).trans f (fun x hx hl=>by
      have:x=b:=by simpa using hx
      omega)
  · obtain rfl:x=b:=by simpa using hx
    exact ⟨hbY,Nat.le_trans eb.w0 hb,fun e=>by have:=eb.dm _ e;omega⟩
  · exact (hI.far f (fun x hx _=>by
      obtain rfl:x=b:=by simpa using hx
      simp)).more (fun x hx=>.inl (by
      rcases List.mem_append.1 hx with h | h
      · exact List.mem_append_left _ h
      · exact List.mem_append_right _ (List.mem_cons_of_mem _ h)))
set_option maxHeartbeats 4000000 in
set_option maxRecDepth 20000 in
theorem quoteName_any (E:Ev w0 w Y Z q g h C K R N) (a:Int) {s:ByteArray} (hs:PK K s) :
    Calls Tryd.prog 70 #[ptr q,num a,.string s] w (EvQ w0 w Y Z q g h C R (NP.putL N s) (.mk (cst a (WP.ofW 3 (NP.putI N s))) R [])):=by
  obtain ⟨k,hk⟩:∃ k,w.heap.size=k:=⟨_,rfl⟩
  obtain ⟨W,hW⟩:∃ W,w.alloc zS=W:=⟨_,rfl⟩
  have F0:MM.Far [] w W:=by rw [← hW];exact (MM.Far.refl [] w).alloc _
  have HB:Hid (SnBox W k):=Lib.hid (by rw [← hW];exact SnBox.new hk);have EW1:=E.box F0 (by omega:w.heap.size≤k) HB.out.lt;obtain ⟨g1,g2,g3,g4,g5,g6⟩:=E.nk.put E.lz.gd.few hs;have hs32:=hs.1.2;have HP:=Lib.hid (put_sc EW1.sc s (by unfold maxLen;omega));rw [g2] at HP;have hof:=ofB_num g3 g4;have HO:=Lib.hid (fun W=>WW.of_any 3 (NP.putI N s) W);have he:WP.ofE 3 (NP.putI N s)=0:=by unfold WP.ofE;rw [if_pos hof]
  rw [he] at HO;obtain ⟨bv,im,hh⟩:=EW1.sc.head;have c2:=hh.at (i:=2) rfl;have HEB:=Lib.hid E.sc.eb;have HF:=Lib.hid F0;have HK:=Lib.hid hk;have HE:=Lib.hid EW1;generalize WP.ofW 3 (NP.putI N s)=wd at *;generalize NP.putI N s=pi at *;generalize NP.putL N s=N' at *;have HC:=Lib.hid (fun W1 Z1=>constant_any W1 (Z:=Z1) q a wd R);clear E EW1 hs g1 g2 g3 g4 g5 g6 hof he hh F0;subst hW;subst hk;unfold zS num at *;unfold ptr at *;go_enter Tryd.func70,Tryd.ntmps70
  go_wp2_with (first
    | (go_at_call 76;refine HP.out.mono ?_;rintro e w1 ⟨rfl,Y1,hY1,hF1,hS1⟩;have HY1:=Lib.hid hY1;have HF1:=Lib.hid hF1;have HS1:=Lib.hid hS1;have HB1:=Lib.hid (HB.out.far hF1 (fun hm=>by have:=HEB.out.y _ hm;omega));clear hY1 hF1 hS1)
    | (go_at_call 81;refine (HO.out _).mono ?_;rintro e w2 ⟨rfl,rfl⟩)
    | (go_at_call 58;refine (HC.out _ (Y1++w.heap.size::Z)).mono ?_;rintro e w3 ⟨v,rfl,hI,hF⟩;obtain ⟨e1,f1,A1,m1,c1,rfl,hl1⟩:=hI.form;have HI3:=Lib.hid hI;have HF3:=Lib.hid hF;have HB3:=Lib.hid (HB1.out.far hF (by simp));clear hI hF;obtain ⟨v0,v1,v2,v3,v4,v5,v6,v7,v8,v9,y0,y1,y2,y3,y4,y5,y6,y7,y8,y9,hfz⟩:=HB3.out.cells;obtain ⟨fk,fa,fn,fA,fs,fw,fl⟩:=f1;simp only at hl1;subst hl1;unfold snV num))
  exact fin_ev rfl rfl rfl HEB.out HF.out (Nat.le_refl _) HB.out.lt HY1.out (HF1.out.trans HF3.out (by simp)) (HS1.out.to HF3.out) HB3.out HI3.out
end
end SM
end Go.Proofs.YtodjaabcjojlkaaDoor
