/-
  Several texts in one: ScoC2,ScoC15.
-/
import Derived.Test.YtodjaabcjojlkaaDoorQScoM1
import Derived.Test.YtodjaabcjojlkaaDoorQScoC14
namespace Go.Proofs.YtodjaabcjojlkaaDoor
open Go.RowKit
set_option linter.unusedVariables false
namespace SM
open LX RW6 EX SC
open EW (Sl Bx ptr num strs)
open RX (Nd)
open RM6 (Kin)
theorem binds_slice:Tryd.prog.underlying 71=some (.slice 137):=by kernel_rfl
theorem bind_info:(Tryd.prog.info? 137).map (fun i=>(i.zero,i.size,i.bytes))=some (some (.agg #[.string ⟨#[]⟩,.int .i64 0,.int .i64 0,.int .i64 0]),4,40):=by kernel_rfl
theorem bd_one (b:Bd):∀ u∈bdL b,u.oneCell'=true:=by
  intro u hu;simp only [bdL,List.mem_cons,List.not_mem_nil,or_false] at hu
  rcases hu with rfl | rfl | rfl | rfl <;> rfl
def EnI (w0 w:World) (Y:List Nat) (q g:Nat) (h:Hd) (own:ByteArray→Nat) (lev:Nat) (row:List Bd) (N:List ByteArray) (wr:World):Prop :=
  ∃ Y1 bv mb mv sv S,MM.Far Y w wr∧Yto w Y Y1∧Sb w0 wr Y1 q g h own lev row (inn row) N bv (.map (some mb)) mv sv S
def EnS (w0 w:World) (Y:List Nat) (q g:Nat) (h:Hd) (own:ByteArray→Nat) (lev:Nat) (row:List Bd) (x:Bd) (N:List ByteArray) (mb:Nat) (wr:World):Prop :=
  ∃ Y1 bv mv sv S,MM.Far Y w wr∧Yto w Y Y1∧Sb w0 wr Y1 q g h own lev (row++[x]) (inn row) N bv (.map (some mb)) mv sv S
theorem own_sl (w0:World) {w:World} {e:TypeId} {size n:Nat} {v:Value} {xs:List Value} (h:w.ownsRow w0.heap.size e size v n xs):∃ A c,v = .slice A n c:=by
  obtain ⟨A,c,e,_⟩:=MO.form h;exact ⟨A,c,e⟩
theorem inn_one (row:List Bd) (lev:Nat) (s:ByteArray) (i:Nat):(fun x=>if x=s then row.length+1 else inn row x)=inn (row++[one1 row lev s i]):=by
  funext x
  rw [inn_snoc];by_cases e:x=s
  · rw [if_pos e,if_pos (by subst e;rfl)]
  · rw [if_neg e,if_neg (fun e2=>e (by subst e2;rfl))]
section
variable {w0 w w1:World} {Y Z:List Nat} {q g:Nat} {h:Hd} {own:ByteArray→Nat} {R:Rws} {N:List ByteArray}
set_option maxHeartbeats 8000000 in
set_option maxRecDepth 20000 in
theorem enter_any {r:List ByteArray} {v:Value} (s:Sc w0 w Y q g h own R N) (hv:Sl w Z v (strs r)) (hYZ:∀ b∈Y,b∈Z) (hl:R.length≤1000000000000) (hB:(bnd R).length+r.length≤1000000000000) :
    Calls Tryd.prog 74 #[.pointer (some ⟨q,4,none⟩),v] w fun e w'=>e = .returned (.tuple #[])∧ScQ w0 w Y q g h own (r::R) N w':=by
  have hnil:=fun W x=>run_eql_map_nil (P:=Tryd.prog) W 48 9 3 x Tryd.underlying48
  have hmm:=@run_makeMap Tryd.prog;obtain ⟨A,cp,rfl,hc1,hc2⟩:=hv.form;obtain ⟨m,hm⟩:∃ m,(strs r).length=m:=⟨_,rfl⟩
  have hmr:r.length=m:=by rw [← hm];simp [strs]
  rw [hm] at hv hc1 ⊢;rw [hmr] at hB;obtain ⟨bv,im,mv,sv,S,s⟩:=s;have c6:=s.head.at (i:=6) rfl;have HV:=Lib.hid hv;have HYZ:=Lib.hid hYZ;have HM:=Lib.hid hmr;have HB:=Lib.hid hB;have hml:m≤maxLen:=by omega
  unfold maxLen at hml;have hmp:=s.map;have HL:=Lib.hid hl;go_enter Tryd.func74,Tryd.ntmps74
  refine wp_seq_k (fun K hK=>?_)
  go_cut [] from 6 to 14 (fun wx=>EnI w0 w Y q g h own R.length (addB (bnd R) R.length (r.take 0) 0) N wx)
  case first =>
    rcases hmp with ⟨rfl,h0⟩ | ⟨mb,rfl,hmb⟩
    · have c6a:=((s.to ((MM.Far.refl [] w).alloc (.map #[] 0)))).head.at (i:=6) rfl;have f6a:=((s.to ((MM.Far.refl [] w).alloc (.map #[] 0)))).head.frozen 6;have H0:Hid (EnI w0 w Y q g h own R.length (addB (bnd R) R.length (r.take 0) 0) N ((w.alloc (.map #[] 0)).setCell ⟨q,6,none⟩ (.map (some w.heap.size)))):=Lib.hid (by
        have k:=s.made;have e:(fun _:ByteArray=>0)=inn (bnd R):=by funext x;exact (h0 x).symm
        rw [e] at k;exact ⟨_,_,_,_,_,_,((MM.Far.refl Y w).alloc _).trans (cellF _ q 6 _) (fun b hb _=>by rw [List.mem_singleton.1 hb];exact s.yq),⟨fun b hb=>List.mem_cons_of_mem _ hb,fun b hb=>(List.mem_cons.1 hb).elim (fun e=>.inr (by omega)) .inl⟩,k⟩)
      clear s hv hm hmr h0 hYZ hB hc1 hl;go_wp2;go_meet
      exact H0.out
    · have H0:Hid (EnI w0 w Y q g h own R.length (addB (bnd R) R.length (r.take 0) 0) N w):=Lib.hid ⟨_,_,_,_,_,_,MM.Far.refl _ _,Yto.refl _ _,s⟩;clear s hv hm hmr hYZ hB hc1 hl hmb;go_wp2;go_meet
      exact H0.out
  case rest =>
    have H0:=Lib.hid hcut;clear s hv hm hmr hYZ hB hc1 hl hmp c6 hcut;go_wp2
    go_loopw [17] (fun s17 wr=>∃ k:Nat,k≤m∧s17 = .int .i64 (k:Int)∧Hid (EnI w0 w Y q g h own R.length (addB (bnd R) R.length (r.take k) 0) N wr)) (fun s17 _=>m - (intOf s17).toNat)
    case atStart=>exact ⟨0,by omega,rfl,H0⟩
    case round =>
      obtain ⟨k,hk,rfl,hI⟩:=hrel;obtain ⟨Y1,bv,mb,mv,sv,S,hF1,hy1,s1⟩:=hI.out;clear hI H0;have c4:=s1.head.at (i:=4) rfl;have c5:=s1.head.at (i:=5) rfl;have c6:=s1.head.at (i:=6) rfl;obtain ⟨bA,bc,rfl⟩:=own_sl w0 s1.bind;have HS:=Lib.hid s1;have HF1:=Lib.hid hF1;have HY1:=Lib.hid hy1;clear s1 hF1 hy1;by_cases hlt:k < m
      · have hkr:k < r.length:=by rw [HM.out];exact hlt
        have HV1:=HV.out.far HF1.out (fun b hb _=>HYZ.out b hb);obtain ⟨gs,os,rfl⟩:∃ gs os,A=some ⟨gs,os,none⟩:=by
          obtain ⟨A',c',e,_,_,h3⟩:=HV1;injection e with e1 e2 e3;subst e1;obtain ⟨g',o',e',_⟩:=h3 k (.string r[k]) (by unfold strs;rw [List.getElem?_map,List.getElem?_eq_getElem hkr];rfl);exact ⟨g',o',e'⟩
        have d0:wr.cell? ⟨gs,os+k,none⟩=some (.string r[k]):=by
          obtain ⟨A',c',e,_,_,h3⟩:=HV1;injection e with e1 e2 e3;subst e1;obtain ⟨g',o',e',_,_,hc⟩:=h3 k (.string r[k]) (by unfold strs;rw [List.getElem?_map,List.getElem?_eq_getElem hkr];rfl);injection e' with e';injection e' with e1 e2;subst e1;subst e2;exact hc
        have hrow:(addB (bnd R) R.length (r.take k) 0).length=(bnd R).length+k:=by rw [addB_len,List.length_take];omega
        have HNX:Hid (addB (bnd R) R.length (r.take (k+1)) 0=addB (bnd R) R.length (r.take k) 0++[one1 (addB (bnd R) R.length (r.take k) 0) R.length r[k] k]):=Lib.hid (by
          rw [List.take_add_one,List.getElem?_eq_getElem hkr];simp only [Option.toList]
          rw [addB_snoc,List.length_take,show 0+min k r.length=k by omega])
        have hi0:(0:Int)≤(k:Int):=by omega
        have hi1:(k:Int) < (m:Int):=by omega
        clear HV1;generalize r[k]=x at *;generalize addB (bnd R) R.length (r.take k) 0=row at *;have hn9:row.length≤1000000000000:=by have:=HB.out;omega
        obtain ⟨L,hL⟩:∃ L,R.length=L:=⟨_,rfl⟩
        rw [hL] at c4;have HLL:=Lib.hid hL;obtain ⟨hid,hhid⟩:∃ hid,inn row x=hid:=⟨_,rfl⟩
        have hlook:=(HS.out.map.far ((MM.Far.refl [] wr).drew) (by simp)).look x;rw [hhid] at hlook;have HH:=Lib.hid hhid;clear hL hhid hkr hrow;unfold num at *
        go_upto_region 5 with fail
        go_cut [] (fun wx=>EnS w0 w Y q g h own R.length row (one1 row R.length x k) N mb wx)
        case first =>
          have f5:=HS.out.head.frozen 5;have hbW:=HS.out.far.size;have c5a:=(HS.out.to ((MM.Far.refl [] wr).alloc (.cells #[.string x,.int .i64 (L:Int),.int .i64 (k:Int),.int .i64 (hid:Int)] 137))).head.at (i:=5) rfl;have hone:(.cells #[.string x,.int .i64 (L:Int),.int .i64 (k:Int),.int .i64 (hid:Int)] 137:Obj) = .cells (bdL (one1 row R.length x k)).toArray 137:=by
            unfold one1 bdL num;rw [HLL.out,HH.out]
          have HONE:=Lib.hid hone;clear hone
          go_region_law (
            refine MO.step_append ?_ (.tmp 26) (.tmp 40) 71 ?_ w0.heap.size 137 _ 4 40 binds_slice bind_info rfl (by omega) (.slice bA row.length bc) row.length (bdC row) ?_ ?_ (some ⟨wr.heap.size,0,none⟩) 1 1 (bdL (one1 row R.length x k)) ?_ rfl (fun h=>by cases h) [] ?_ (bd_one _) ?_ ?_ ?_ ?_
            · rfl
            · rfl
            · rfl
            · exact HS.out.bind.alloc _
            · rfl
            · rw [HONE.out];exact (MM.Src.row (MM.Row.new wr 137 (bdL (one1 row R.length x k))) (by simp) _ (fun j u hu=>hu))
            · simp only [maxLen];omega
            · omega
            · simp;omega
            intro v2 w2 hv2 hg2 hat2;obtain ⟨A2,c2x,rfl⟩:=own_sl w0 hv2;have hat3:(Value.slice A2 (row.length+1) c2x).ownBlock=(Value.slice bA row.length bc).ownBlock∨∃ b,(Value.slice A2 (row.length+1) c2x).ownBlock=some b∧wr.heap.size≤b:=hat2.imp id (fun e=>⟨_,e,((MM.Far.refl [] wr).alloc _).drew.size⟩);have F2:MM.Far (Value.slice bA row.length bc).ownBlock.toList wr w2:=RC6.far_app hg2;have HH2:Hid (MM.Row w2 q 76 _):=Lib.hid (HS.out.head.far F2 (fun hm=>MM.own_row_ne HS.out.bind HS.out.head (by decide) (by simpa using hm)));have d5W:=HH2.out.at (i:=5) rfl;have e5W:=HH2.out.frozen 5;have HNs:=Lib.hid (HS.out.add (w1:=w2) (one1 row R.length x k) hv2 F2 hat3);have HA2:=Lib.hid (addY (w:=wr) HS.out.yb hat3);have HF2:=Lib.hid F2;clear hg2 hv2 hat2 hat3)
          all_goals
            go_wp2_with fail
            go_meet
            refine ⟨_,_,_,_,_,?_,HY1.out.of ⟨HA2.out.sub,HA2.out.new⟩ HF1.out.size,HNs.out⟩
            exact far_y HF1.out HY1.out ((HF2.out.mono (fun b hb _=>HS.out.yb b (by simpa using hb))).trans (cellF w2 q 5 _) (fun b hb _=>by rw [List.mem_singleton.1 hb];exact HS.out.yq)) (fun b hb _=>hb)
        case rest =>
          obtain ⟨Y2,bv2,mv2,sv2,S2,hF2,hy2,s2⟩:=hcut;have k5:=s2.head.at (i:=5) rfl;have k6:=s2.head.at (i:=6) rfl;obtain ⟨bA2,bc2,rfl⟩:=own_sl w0 s2.bind;rw [List.length_append,List.length_singleton] at k5;have hM2:MapN wc mb (inn row):=by
            rcases s2.map with ⟨h1,_⟩ | ⟨mb',h1,hm⟩
            · cases h1
            · cases h1;exact hm
          obtain ⟨w3,hup,hset,hfar⟩:=(hM2.far ((MM.Far.refl [] wc).drew) (by simp)).up x (row.length+1);rw [show (((row.length+1:Nat)):Int)=(row.length:Int)+1 by omega] at hup;have HU:=Lib.hid (And.intro hset hfar);have HS2:=Lib.hid s2;have HF2:=Lib.hid hF2;have HY2:=Lib.hid hy2;clear hM2 hset hfar s2 hF2 hy2 c4 c5 c6 d0 hlook HS HF1 HY1
          go_upto_region 6 with fail
          go_region
          all_goals
            go_wp2;go_roundw
            case rel =>
              refine ⟨k+1,by omega,by go_num,Lib.hid ?_⟩
              have k1:=(HS2.out.to ((MM.Far.refl [] wc).drew)).upd HU.out.1 HU.out.2;rw [inn_one row R.length x k] at k1;rw [HNX.out];exact ⟨_,_,_,_,_,_,far_y HF2.out HY2.out (((MM.Far.refl [mb] wc).drew).trans HU.out.2 (fun b hb _=>hb)) (fun b hb _=>by rw [List.mem_singleton.1 hb];exact HS2.out.ym mb rfl),⟨HY2.out.sub,HY2.out.new⟩,k1⟩
            case measure=>simp [intOf];omega
      · obtain rfl:k=m:=by omega
        have hi1:¬ (k:Int) < (k:Int):=by omega
        have e0:r.take k=r:=List.take_of_length_le (by rw [HM.out];exact Nat.le_refl _);have HB2:Hid (bnd (r::R)=addB (bnd R) R.length (r.take k) 0):=Lib.hid (by rw [e0];rfl);clear e0;obtain ⟨L,hL⟩:∃ L,R.length=L:=⟨_,rfl⟩
        rw [hL] at c4;have hL9:L≤1000000000000:=by have:=HL.out;omega
        have HLL:=Lib.hid hL;clear hL;have f4:=HS.out.head.frozen 4;unfold num at *;go_wp2;refine bodyPost_end (results_none rfl _ _ _) rfl ?_
        refine ⟨rfl,Y1,⟨HY1.out.sub,HY1.out.new⟩,?_,?_⟩
        · exact far_y HF1.out HY1.out (cellF wr q 4 _) (fun b hb _=>by rw [List.mem_singleton.1 hb];exact HS.out.yq)
        · have k:=HS.out.setLev (R.length+1);rw [← HB2.out] at k;have e:num ((R.length+1:Nat):Int) = .int .i64 ((L:Int)+1):=by rw [HLL.out];rfl
          rw [e] at k;exact ⟨_,_,_,_,_,k⟩
end
end SM
end Go.Proofs.YtodjaabcjojlkaaDoor
namespace Go.Proofs.YtodjaabcjojlkaaDoor
open Go.RowKit
set_option linter.unusedVariables false
namespace SM
open LX SX RW6 EX SC
open EW (Sl Bx ptr num strs bx_new z_alloc sz_alloc z_far z_drew made_list sl_new keep2 keep3 keep4 ints_len int_head NdR FmR Bx.cons)
section
variable {w0 w w1 W:World} {Y Z:List Nat} {q g:Nat} {h:Hd} {C:Cx} {K:List ByteArray} {R:Rws} {N:List ByteArray}
set_option maxHeartbeats 4000000 in
set_option maxRecDepth 20000 in
theorem set_any (E:Ev w0 w Y Z q g h C K R N) (f:Fm) {PA LA:Option Addr} {np pc m lc:Nat} (hl:Sl w Z (.slice LA m lc) (ints f.l)) (hm:f.l.length=m) (hmx:m≤100000) (hs:f.s.size≤140737488355328) (h7:f.kind=7) :
    Calls Tryd.prog 63 #[ptr q,fmV f (.slice PA np pc) (.slice LA m lc)] w (EvQ w0 w Y Z q g h C R (setP' C R N f).2 (setP' C R N f).1):=by
  obtain ⟨fk,fa,fn,fs,fp,l⟩:=f;unfold fmV;simp only at hl hm hs ⊢
  obtain ⟨k,hk⟩:∃ k,w.heap.size=k:=⟨_,rfl⟩
  obtain ⟨OB,hOB⟩:∃ o:Obj,.cells #[.int .u8 fk,num fa,num fn,num 0,.string fs,.slice PA np pc,.int .u64 0,.slice LA m lc] 33=o:=⟨_,rfl⟩
  obtain ⟨W,hW⟩:∃ W,(w.alloc OB).alloc zS=W:=⟨_,rfl⟩
  have F0:MM.Far [] w W:=by rw [← hW];exact ((MM.Far.refl [] w).alloc _).alloc _
  have BL:MM.Row W k 33 [.int .u8 fk,num fa,num fn,num 0,.string fs,.slice PA np pc,.int .u64 0,.slice LA m lc]:=by
    rw [← hW,← hOB];exact (EW.row_new 33 _ hk).alloc _
  have HB:Hid (SnBox W (k+1)):=Lib.hid (by rw [← hW];exact SnBox.new (by rw [sz_alloc,hk]));have HBW:Hid (k+1 < W.heap.size):=Lib.hid HB.out.lt;have E1:=E.box F0 (by omega:w.heap.size≤k+1) HB.out.lt;have z0:=BL.at (i:=0) rfl;have z1:=BL.at (i:=1) rfl;have z2:=BL.at (i:=2) rfl;have z3:=BL.at (i:=3) rfl;have z4:=BL.at (i:=4) rfl;have z5:=BL.at (i:=5) rfl;have z6:=BL.at (i:=6) rfl;have z7:=BL.at (i:=7) rfl;have HEB:=Lib.hid E.sc.eb;have HBL:=Lib.hid BL;have HE:=Lib.hid E1;have HF:=Lib.hid F0;have HK:=Lib.hid hk;have hlW:Sl W ((k+1)::Z) (.slice LA m lc) (ints l):=(hl.more (fun x hx=>(List.mem_cons.1 hx).elim (fun e=>.inr (by omega)) .inl)).far F0 (by simp);have HLW:=Lib.hid hlW;have HZ1:=Lib.hid E1.z;have HYZ:=Lib.hid E1.sub;have h7:fk=7:=h7;subst h7;have HRF:=Lib.hid (refer_any E1 fs hs);unfold setP';simp only
  unfold refV at HRF;cases hw:wher R fs with
  | some y =>
    obtain ⟨a,n⟩:=y;rw [hw] at HRF;simp only at HRF ⊢
    have ha1:decide ((a:Int) = -1)=false:=by rw [decide_eq_false_iff_not];omega
    have ha2:¬ (a:Int) = -1:=by omega
    have HKE:=Lib.hid (fun (w2:World) (Z2:List Nat) (hz:∀ b∈Z2,b < w2.heap.size) (hl2:Sl w2 Z2 (.slice LA m lc) (ints l))=>keep_any w2 q hz ⟨7,fa,fn,fs,fp,l⟩ R (PA:=PA) (np:=np) (pc:=pc) hl2 hm (by omega));unfold fmV at HKE;simp only at HKE ⊢
    clear E E1 hl hm hs BL F0 hw hlW;subst hW;subst hOB;subst hk;unfold zS num at *;unfold ptr at *;go_enter Tryd.func63,Tryd.ntmps63
    go_upto_region 1 with fail
    generalize (w.alloc (.cells #[.int .u8 7,.int .i64 fa,.int .i64 fn,.int .i64 0,.string fs,.slice PA np pc,.int .u64 0,.slice LA m lc] 33)).alloc (.cells #[.int .i64 0,.int .u8 0,.int .i64 0,.int .i64 0,.int .i64 0,.string ⟨#[]⟩,.slice none 0 0,.int .u64 0,.slice none 0 0,.slice none 0 0] 100)=W at *
    go_wp2_with (first
      | (go_at_call 72;(with_reducible refine HRF.out.mono ?_);rintro e w1 ⟨rfl,Y1,hY1,hF1,hS1⟩;have HY1:=Lib.hid hY1;have HF1:=Lib.hid hF1;have HS1:=Lib.hid hS1;have HB1:=Lib.hid (HB.out.far hF1 (fun hm=>by have:=HEB.out.y _ hm;omega));have HBL1:=Lib.hid (HBL.out.far hF1 (fun hm=>by have:=HEB.out.y _ hm;omega));have HK2:=Lib.hid (HKE.out w1 _ (zN HZ1.out hF1 hS1.eb.y) (slN HLW.out hY1 hF1 HYZ.out));have t0:=HBL1.out.at (i:=0) rfl;have t1:=HBL1.out.at (i:=1) rfl;have t2:=HBL1.out.at (i:=2) rfl;have t3:=HBL1.out.at (i:=3) rfl;have t4:=HBL1.out.at (i:=4) rfl;have t5:=HBL1.out.at (i:=5) rfl;have t6:=HBL1.out.at (i:=6) rfl;have t7:=HBL1.out.at (i:=7) rfl;clear hY1 hF1 hS1)
      | (go_at_call 66;(with_reducible refine HK2.out.mono ?_);rintro e w3 ⟨v,rfl,⟨-,parts,vs,rfl,hSl,hIp⟩,hF3⟩;obtain ⟨A3,c3,rfl,-⟩:=hSl.form;obtain ⟨n3,hn3⟩:∃ n3,vs.length=n3:=⟨_,rfl⟩;rw [hn3] at hSl ⊢;have HSl:=Lib.hid hSl;have HIp:=Lib.hid hIp;have HF3:=Lib.hid hF3;have HB3:=Lib.hid (HB1.out.far hF3 (by simp));have HL3:=Lib.hid (HBL1.out.far hF3 (by simp));have hne3:¬ w3.heap.size=w.heap.size+1:=by { have:=HB3.out.lt;omega };have hne4:¬ w3.heap.size=w.heap.size:=by { have:=HB3.out.lt;omega };clear hSl hIp hF3 hn3;have HB4:=Lib.hid (HB3.out.far ((MM.Far.refl [] w3).alloc (.cells #[.int .i64 0,.int .u8 7,.int .i64 fa,.int .i64 n,.int .i64 a,.string emp,.slice none 0 0,.int .u64 0,.slice none 0 0,.slice A3 n3 c3] 100)) (by simp));obtain ⟨v0,v1,v2,v3,v4,v5,v6,v7,v8,v9,y0,y1,y2,y3,y4,y5,y6,y7,y8,y9,hfz⟩:=HB4.out.cells;unfold snV num))
    exact fin_ev rfl rfl rfl HEB.out HF.out (by omega) HBW.out HY1.out (HF1.out.trans (HF3.out.trans ((MM.Far.refl [] w3).alloc _) (by simp)) (by simp)) (HS1.out.to (HF3.out.trans ((MM.Far.refl [] w3).alloc _) (by simp))) (HB3.out.far ((MM.Far.refl [] w3).alloc _) (by simp)) ⟨rfl,_,_,rfl,HSl.out.far ((MM.Far.refl [] w3).alloc _) (by simp),HIp.out.far ((MM.Far.refl [] w3).alloc _) (by simp)⟩
  | none =>
    rw [hw] at HRF;simp only at HRF ⊢
    by_cases ho:fs∈C.own
    · rw [if_pos ho] at HRF ⊢;have HCL:=Lib.hid (fun w1=>MC.clone_any fs w1 hs);simp only at HRF ⊢
      have HKE:=Lib.hid (fun (w2:World) (Z2:List Nat) (hz:∀ b∈Z2,b < w2.heap.size) (hl2:Sl w2 Z2 (.slice LA m lc) (ints l))=>keep_any w2 q hz ⟨7,fa,fn,fs,fp,l⟩ R (PA:=PA) (np:=np) (pc:=pc) hl2 hm (by omega));unfold fmV at HKE;simp only at HKE ⊢
      generalize NP.putI N fs=pi at *;generalize NP.putL N fs=N2 at *;clear E E1 hl hm hs BL F0 hw ho hlW;subst hW;subst hOB;subst hk;unfold zS num at *;unfold ptr at *;go_enter Tryd.func63,Tryd.ntmps63
      go_upto_region 1 with fail
      generalize (w.alloc (.cells #[.int .u8 7,.int .i64 fa,.int .i64 fn,.int .i64 0,.string fs,.slice PA np pc,.int .u64 0,.slice LA m lc] 33)).alloc (.cells #[.int .i64 0,.int .u8 0,.int .i64 0,.int .i64 0,.int .i64 0,.string ⟨#[]⟩,.slice none 0 0,.int .u64 0,.slice none 0 0,.slice none 0 0] 100)=W at *
      go_wp2_with (first
        | (go_at_call 72;(with_reducible refine HRF.out.mono ?_);rintro e w1 ⟨rfl,Y1,hY1,hF1,hS1⟩;have HY1:=Lib.hid hY1;have HF1:=Lib.hid hF1;have HS1:=Lib.hid hS1;have HB1:=Lib.hid (HB.out.far hF1 (fun hm=>by have:=HEB.out.y _ hm;omega));have HBL1:=Lib.hid (HBL.out.far hF1 (fun hm=>by have:=HEB.out.y _ hm;omega));have HK2:=Lib.hid (HKE.out w1 _ (zN HZ1.out hF1 hS1.eb.y) (slN HLW.out hY1 hF1 HYZ.out));have t0:=HBL1.out.at (i:=0) rfl;have t1:=HBL1.out.at (i:=1) rfl;have t2:=HBL1.out.at (i:=2) rfl;have t3:=HBL1.out.at (i:=3) rfl;have t4:=HBL1.out.at (i:=4) rfl;have t5:=HBL1.out.at (i:=5) rfl;have t6:=HBL1.out.at (i:=6) rfl;have t7:=HBL1.out.at (i:=7) rfl;clear hY1 hF1 hS1)
        | (go_at_call 66;(with_reducible refine HK2.out.mono ?_);rintro e w3 ⟨v,rfl,⟨-,parts,vs,rfl,hSl,hIp⟩,hF3⟩;obtain ⟨A3,c3,rfl,-⟩:=hSl.form;obtain ⟨n3,hn3⟩:∃ n3,vs.length=n3:=⟨_,rfl⟩;rw [hn3] at hSl ⊢;have HSl:=Lib.hid hSl;have HIp:=Lib.hid hIp;have HF3:=Lib.hid hF3;have HB3:=Lib.hid (HB1.out.far hF3 (by simp));have HL3:=Lib.hid (HBL1.out.far hF3 (by simp));have hne3:¬ w3.heap.size=w.heap.size+1:=by { have:=HB3.out.lt;omega };have hne4:¬ w3.heap.size=w.heap.size:=by { have:=HB3.out.lt;omega };clear hSl hIp hF3 hn3;have u4:=farC ((MM.Far.refl [] w3).alloc (.cells #[.int .i64 0,.int .u8 7,.int .i64 fa,.int .i64 pi,.int .i64 (-1),.string emp,.slice none 0 0,.int .u64 0,.slice none 0 0,.slice A3 n3 c3] 100)) (HL3.out.at (i:=4) rfl);unfold snV num)
        | (go_at_call 73;(with_reducible refine (HCL.out _).mono ?_);rintro e w5 ⟨rfl,hF5⟩;have HF5:=Lib.hid (((MM.Far.refl [] w3).alloc _).trans hF5 (by simp));have HT5:Hid (MM.Row w5 w3.heap.size 100 [.int .i64 0,.int .u8 7,.int .i64 fa,.int .i64 pi,.int .i64 (-1),.string emp,.slice none 0 0,.int .u64 0,.slice none 0 0,.slice A3 n3 c3]):=Lib.hid ((MM.Row.new w3 100 [.int .i64 0,.int .u8 7,.int .i64 fa,.int .i64 pi,.int .i64 (-1),.string emp,.slice none 0 0,.int .u64 0,.slice none 0 0,.slice A3 n3 c3]).far hF5 (by simp));have HB5:=Lib.hid (HB3.out.far HF5.out (by simp));have fz5:=HT5.out.frozen;have s0:=HT5.out.at (i:=0) rfl;have s1:=HT5.out.at (i:=1) rfl;have s2:=HT5.out.at (i:=2) rfl;have s3:=HT5.out.at (i:=3) rfl;have s4:=HT5.out.at (i:=4) rfl;have s5:=HT5.out.at (i:=5) rfl;have s6:=HT5.out.at (i:=6) rfl;have s7:=HT5.out.at (i:=7) rfl;have s8:=HT5.out.at (i:=8) rfl;have s9:=HT5.out.at (i:=9) rfl;clear hF5;obtain ⟨v0,v1,v2,v3,v4,v5,v6,v7,v8,v9,y0,y1,y2,y3,y4,y5,y6,y7,y8,y9,hfz⟩:=HB5.out.cells))
      have F6:=Lib.hid (farNew HF5.out (cellF w5 w3.heap.size 5 (.string fs)) (fun b hb=>by rw [List.mem_singleton.1 hb];exact Nat.le_refl _));exact fin_ev rfl rfl rfl HEB.out HF.out (by omega) HBW.out HY1.out (HF1.out.trans (HF3.out.trans F6.out (by simp)) (by simp)) (HS1.out.to (HF3.out.trans F6.out (by simp))) (HB3.out.far F6.out (by simp)) ⟨rfl,_,_,rfl,HSl.out.far F6.out (by simp),HIp.out.far F6.out (by simp)⟩
    · rw [if_neg ho] at HRF ⊢;simp only at HRF ⊢
      have hno:noName fs≠0:=by unfold noName;split <;> omega
      have hno2:(noName fs != 0)=true:=by simp [hno]
      have HWR:=Lib.hid (fun w1=>wrong_any w1 (Z:=(k+1)::Z) q fa (noName fs) hno);have hno3:decide (noName fs=0)=false:=by simp [hno]
      generalize noName fs=er at *;clear E E1 hl hm hs BL F0 hw ho hno hlW;subst hW;subst hOB;subst hk;unfold zS num at *;unfold ptr at *;go_enter Tryd.func63,Tryd.ntmps63
      go_wp2_with (first
        | (go_at_call 72;(with_reducible refine HRF.out.mono ?_);rintro e w1 ⟨rfl,Y1,hY1,hF1,hS1⟩;have HY1:=Lib.hid hY1;have HF1:=Lib.hid hF1;have HS1:=Lib.hid hS1;have HB1:=Lib.hid (HB.out.far hF1 (fun hm=>by have:=HEB.out.y _ hm;omega));have HBL1:=Lib.hid (HBL.out.far hF1 (fun hm=>by have:=HEB.out.y _ hm;omega));have z1':=HBL1.out.at (i:=1) rfl;clear hY1 hF1 hS1)
        | (go_at_call 69;(with_reducible refine (HWR.out _).mono ?_);rintro e w2 ⟨v,rfl,⟨rfl,he2⟩,hF⟩;have HF2:=Lib.hid hF;have HB2:=Lib.hid (HB1.out.far hF (by simp));have HE2:=Lib.hid he2;clear hF he2;obtain ⟨v0,v1,v2,v3,v4,v5,v6,v7,v8,v9,y0,y1,y2,y3,y4,y5,y6,y7,y8,y9,hfz⟩:=HB2.out.cells;unfold snV badF num))
      exact fin_ev rfl rfl rfl HEB.out HF.out (by omega) HBW.out HY1.out (HF1.out.trans HF2.out (by simp)) (HS1.out.to HF2.out) HB2.out ⟨rfl,HE2.out⟩
set_option maxHeartbeats 4000000 in
set_option maxRecDepth 20000 in
theorem function_any (E:Ev w0 w Y Z q g h C K R N) (f:Fm) {PA LA:Option Addr} {np pc m lc:Nat} (hl:Sl w Z (.slice LA m lc) (ints f.l)) (hm:f.l.length=m) (hmx:m≤100000) (hs:f.s.size≤140737488355328) (h6:f.kind=6) (hp:Sl w Z (.slice PA np pc) (strs f.p)) (hn:f.p.length=np) (hnd:f.p.Nodup) (hn1:np≤100) (hR:R.length+1≤1000000000) (hB:(bnd R).length≤100000000000) :
    Calls Tryd.prog 62 #[ptr q,fmV f (.slice PA np pc) (.slice LA m lc)] w (EvQ w0 w Y Z q g h C (f.p::R) N (.mk ⟨6,f.at_,np,0,emp,0,[]⟩ (f.p::R) (f.l.map .form))):=by
  obtain ⟨fk,fa,fn,fs,fp,l⟩:=f;unfold fmV;simp only at hl hm hs hp hn hnd ⊢
  obtain ⟨k,hk⟩:∃ k,w.heap.size=k:=⟨_,rfl⟩
  obtain ⟨OB,hOB⟩:∃ o:Obj,.cells #[.int .u8 fk,num fa,num fn,num 0,.string fs,.slice PA np pc,.int .u64 0,.slice LA m lc] 33=o:=⟨_,rfl⟩
  obtain ⟨W,hW⟩:∃ W,(w.alloc OB).alloc zS=W:=⟨_,rfl⟩
  have F0:MM.Far [] w W:=by rw [← hW];exact ((MM.Far.refl [] w).alloc _).alloc _
  have BL:MM.Row W k 33 [.int .u8 fk,num fa,num fn,num 0,.string fs,.slice PA np pc,.int .u64 0,.slice LA m lc]:=by
    rw [← hW,← hOB];exact (EW.row_new 33 _ hk).alloc _
  have HB:Hid (SnBox W (k+1)):=Lib.hid (by rw [← hW];exact SnBox.new (by rw [sz_alloc,hk]));have HBW:Hid (k+1 < W.heap.size):=Lib.hid HB.out.lt;have E1:=E.box F0 (by omega:w.heap.size≤k+1) HB.out.lt;have z0:=BL.at (i:=0) rfl;have z1:=BL.at (i:=1) rfl;have z2:=BL.at (i:=2) rfl;have z3:=BL.at (i:=3) rfl;have z4:=BL.at (i:=4) rfl;have z5:=BL.at (i:=5) rfl;have z6:=BL.at (i:=6) rfl;have z7:=BL.at (i:=7) rfl;have HEB:=Lib.hid E.sc.eb;have HBL:=Lib.hid BL;have HE:=Lib.hid E1;have HF:=Lib.hid F0;have HK:=Lib.hid hk;have hlW:Sl W ((k+1)::Z) (.slice LA m lc) (ints l):=(hl.more (fun x hx=>(List.mem_cons.1 hx).elim (fun e=>.inr (by omega)) .inl)).far F0 (by simp);have HLW:=Lib.hid hlW;have HZ1:=Lib.hid E1.z;have HYZ:=Lib.hid E1.sub;have h6:fk=6:=h6;subst h6;have hpW:Sl W ((k+1)::Z) (.slice PA np pc) (strs fp):=(hp.more (fun x hx=>(List.mem_cons.1 hx).elim (fun e=>.inr (by omega)) .inl)).far F0 (by simp);have HEN:Hid (∀ w1,MM.Far [] W w1→Calls Tryd.prog 74 #[.pointer (some ⟨q,4,none⟩),.slice PA np pc] w1 fun e w'=>e = .returned (.tuple #[])∧ScQ w0 W Y q g h (ownC C) (fp::R) N w'):=Lib.hid (fun w1 f=>(enter_any (E1.sc.to f) (hpW.far f (by simp)) E1.sub (by omega) (by omega)).mono (fun e w' hq=>⟨hq.1,ScQ.from f hq.2⟩));have HKE:=Lib.hid (fun (w2:World) (Z2:List Nat) (hz:∀ b∈Z2,b < w2.heap.size) (hl2:Sl w2 Z2 (.slice LA m lc) (ints l))=>keep_any w2 q hz ⟨6,fa,fn,fs,fp,l⟩ (fp::R) (PA:=PA) (np:=np) (pc:=pc) hl2 hm (by omega));unfold fmV at HKE;simp only at HKE ⊢
  clear E E1 hl hm hs BL F0 hlW hp hpW hnd hR hB;subst hW;subst hOB;subst hk;unfold zS num at *;unfold ptr at *;go_enter Tryd.func62,Tryd.ntmps62
  go_upto_region 1 with fail
  generalize (w.alloc (.cells #[.int .u8 6,.int .i64 fa,.int .i64 fn,.int .i64 0,.string fs,.slice PA np pc,.int .u64 0,.slice LA m lc] 33)).alloc (.cells #[.int .i64 0,.int .u8 0,.int .i64 0,.int .i64 0,.int .i64 0,.string ⟨#[]⟩,.slice none 0 0,.int .u64 0,.slice none 0 0,.slice none 0 0] 100)=W at *
  go_region_held3 (fun w'=>w'.cell? ⟨w.heap.size,5,none⟩=some (.slice PA np pc)) (first | (with_reducible assumption) | go_keep) (first
    | (go_at_call 74;(with_reducible refine (HEN.out _ ((MM.Far.refl [] W).drew)).mono ?_);rintro e w1 ⟨rfl,Y1,hY1,hF1,hS1⟩;have HBL1:=Lib.hid (HBL.out.far hF1 (fun hm=>by have:=HEB.out.y _ hm;omega));have hk1:w1.cell? ⟨w.heap.size,5,none⟩=some (.slice PA np pc):=HBL1.out.at (i:=5) rfl;have HY1:=Lib.hid hY1;have HF1:=Lib.hid hF1;have HS1:=Lib.hid hS1;have HB1:=Lib.hid (HB.out.far hF1 (fun hm=>by have:=HEB.out.y _ hm;omega));have HK2:=Lib.hid (HKE.out w1 _ (zN HZ1.out hF1 hS1.eb.y) (slN HLW.out hY1 hF1 HYZ.out));have t0:=HBL1.out.at (i:=0) rfl;have t1:=HBL1.out.at (i:=1) rfl;have t2:=HBL1.out.at (i:=2) rfl;have t3:=HBL1.out.at (i:=3) rfl;have t4:=HBL1.out.at (i:=4) rfl;have t5:=HBL1.out.at (i:=5) rfl;have t6:=HBL1.out.at (i:=6) rfl;have t7:=HBL1.out.at (i:=7) rfl;clear hY1 hF1 hS1))
  go_wp2_with (first
    | (go_at_call 66;(with_reducible refine HK2.out.mono ?_);rintro e w3 ⟨v,rfl,⟨-,parts,vs,rfl,hSl,hIp⟩,hF3⟩;obtain ⟨A3,c3,rfl,-⟩:=hSl.form;obtain ⟨n3,hn3⟩:∃ n3,vs.length=n3:=⟨_,rfl⟩;rw [hn3] at hSl ⊢;have HSl:=Lib.hid hSl;have HIp:=Lib.hid hIp;have HF3:=Lib.hid hF3;have HB3:=Lib.hid (HB1.out.far hF3 (by simp));have HL3:=Lib.hid (HBL1.out.far hF3 (by simp));have hne3:¬ w3.heap.size=w.heap.size+1:=by { have:=HB3.out.lt;omega };have hne4:¬ w3.heap.size=w.heap.size:=by { have:=HB3.out.lt;omega };clear hSl hIp hF3 hn3;have u5:=farC ((MM.Far.refl [] w3).alloc (.cells #[.int .i64 0,.int .u8 6,.int .i64 fa,.int .i64 0,.int .i64 0,.string emp,.slice none 0 0,.int .u64 0,.slice none 0 0,.slice A3 n3 c3] 100)) (HL3.out.at (i:=5) rfl);have HB4:=Lib.hid (HB3.out.far ((MM.Far.refl [] w3).alloc (.cells #[.int .i64 0,.int .u8 6,.int .i64 fa,.int .i64 np,.int .i64 0,.string emp,.slice none 0 0,.int .u64 0,.slice none 0 0,.slice A3 n3 c3] 100)) (by simp));obtain ⟨v0,v1,v2,v3,v4,v5,v6,v7,v8,v9,y0,y1,y2,y3,y4,y5,y6,y7,y8,y9,hfz⟩:=HB4.out.cells;unfold snV num))
  exact fin_ev rfl rfl rfl HEB.out HF.out (by omega) HBW.out HY1.out (HF1.out.trans (HF3.out.trans ((MM.Far.refl [] w3).alloc _) (by simp)) (by simp)) (HS1.out.to (HF3.out.trans ((MM.Far.refl [] w3).alloc _) (by simp))) (HB3.out.far ((MM.Far.refl [] w3).alloc _) (by simp)) ⟨rfl,_,_,rfl,HSl.out.far ((MM.Far.refl [] w3).alloc _) (by simp),HIp.out.far ((MM.Far.refl [] w3).alloc _) (by simp)⟩
end
end SM
end Go.Proofs.YtodjaabcjojlkaaDoor
