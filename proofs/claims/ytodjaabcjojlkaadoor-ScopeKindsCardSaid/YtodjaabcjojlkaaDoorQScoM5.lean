/-
  Contract of layer 9's code: resolve,the loop over the parts. Conditions: sizes.
-/
import Derived.Test.YtodjaabcjojlkaaDoorQScoM4
import Derived.Deep.LoopGhost
import Derived.Deep.RegionLaw
import Derived.Deep.CutRange
namespace Go.Proofs.YtodjaabcjojlkaaDoor
open Go.RowKit
set_option linter.unusedVariables false
namespace SM
open LX SX RW6 EX SC
open EW (Sl Bx ptr num strs sz_alloc bx_new z_alloc)
open RX (Nd)
open RM6 (Kin)
def hd0 (dv lv dm fv tv hv:Value):Hd:=⟨dv,lv,dm,fv,tv,hv⟩
theorem Lz.to {w0:World} {dv lv dm fv tv hv fv' tv' hv':Value} {C:Cx} {K:List ByteArray} (L:Lz w0 ⟨dv,lv,dm,fv,tv,hv⟩ C K):Lz w0 ⟨dv,lv,dm,fv',tv',hv'⟩ C K:=⟨L.gd,L.pt,L.dat,L.frm,L.few,L.fl⟩
theorem Sy.ev {w0 w:World} {Z Y:List Nat} {q g:Nat} {dv lv dm:Value} {C:Cx} {K:List ByteArray} {R:Rws} {N:List ByteArray} {fv tv hv ov:Value} {rs:List (Rf × Value)} {tops:List Nat} {os:List Pz} {ex:List (Value × List Nat)}
    (h:Sy w0 w Z Y q g dv lv dm (ownC C) R N fv tv hv ov rs tops os ex) (L:Lz w0 ⟨dv,lv,dm,.nilFunc,.nilFunc,.nilFunc⟩ C K) (hN:Nk K N) (hR:RwOk R):Ev w0 w Y Z q g ⟨dv,lv,dm,fv,tv,hv⟩ C K R N :=
  ⟨L.to,h.sc,hN,hR.1,hR.2,h.mc.z,h.mc.low,h.mc.sub⟩
def RsQ (w0 w:World) (Z:List Nat) (q g:Nat) (dv lv dm:Value) (C:Cx) (K:List ByteArray) (B:Nat):Fin→Ending→World→Prop
  | .error x,e,w'=>e = .returned (.tuple #[.int .i64 x.1,.int .i64 x.2.1])∧MM.Far Z w w'∧∃ Z' Y' R' h',Yto w Z Z'∧Sc w0 w' Y' q g h' (ownC C) R' x.2.2∧∀ b∈Y',b∈Z'
  | .ok r,e,w'=>e = .returned (.tuple #[.int .i64 0,.int .i64 0])∧MM.Far Z w w'∧∃ Z' Y' fv tv ov rs,Yto w Z Z'∧Sy w0 w' Z' Y' q g dv lv dm (ownC C) [] r.1 fv tv ov ov rs r.2.2 [] []∧rs.map (·.1)=r.2.1∧FewS B r.2.1 r.2.2 []∧Nk K r.1
def RsI (w0 wA:World) (Z:List Nat) (q g:Nat) (dv lv dm:Value) (C:Cx) (K:List ByteArray) (B:Nat) (X:Fin) (k:Nat) (v:Value) (wr:World):Prop :=
  ∃ Z1 Y1 fv tv ov R N rs tops os nx B0,MM.Far Z wA wr∧Yto wA Z Z1∧Sy w0 wr Z1 Y1 q g dv lv dm (ownC C) R N fv tv ov ov rs tops os []∧nextQ wr Z1 q v nx∧goS C k N ⟨rs.map (·.1),tops,R,os.map (·.o),nx⟩=some X∧B0+k≤B ∧
    FewS B0 (rs.map (·.1)) tops (os.map (·.o))∧GoodS C (os.map (·.o))∧(∀ p,nx=some p→ThS C p∧tops.length+1≤100000∧∀ o∈(os.map (·.o)).head?,o.f.l.length < o.ps.length)∧(nx=none→os=[])∧RO (os.map (·.o)) R∧RwOk R∧Nk K N
def Cut3 (w0 wA w:World) (Z:List Nat) (q g:Nat) (dv lv dm fv tv:Value) (C:Cx) (R:Rws) (N:List ByteArray) (rs:List (Rf × Value)) (tops:List Nat) (n:Nat) (os:List Pz) (bx:Nat) (wx:World):Prop :=
  ∃ Z2 Y2 A c,MM.Far Z wA wx∧Yto wA Z Z2∧Sy w0 wx Z2 Y2 q g dv lv dm (ownC C) R N fv tv (.slice A n c) (.slice A n c) rs tops os []∧wx.cell? ⟨bx,0,none⟩=some (.pointer (some ⟨q,0,none⟩))∧w.heap.size≤wx.heap.size
section
variable {w0 w:World} {Z Y:List Nat} {q g:Nat} {dv lv dm:Value} {C:Cx} {K:List ByteArray} {N:List ByteArray} {fv tv ov:Value} {rs:List (Rf × Value)} {tops:List Nat}
set_option maxHeartbeats 8000000 in
set_option maxRecDepth 20000 in
theorem resolve_any {B B0 i m:Nat} {X:Fin} (hB:B≤900000000) (L:Lz w0 ⟨dv,lv,dm,.nilFunc,.nilFunc,.nilFunc⟩ C K) (h:Sy w0 w Z Y q g dv lv dm (ownC C) [] N fv tv ov ov rs tops [] []) (hN:Nk K N) (hi:i < C.fs.length)
    (hgo:goS C m N ⟨rs.map (·.1),tops,[],[],some (.form i)⟩=some X) (hm:B0+m≤B) (hF:FewS B0 (rs.map (·.1)) tops []) (ht:tops.length+1≤100000) :
    Calls Tryd.prog 20 #[ptr q,num i] w (RsQ w0 w Z q g dv lv dm C K B X):=by
  obtain ⟨wA,hwA⟩:∃ wA,(w.alloc (.cells #[ptr q] 69)).alloc (.cells #[num i] 3)=wA:=⟨_,rfl⟩
  have FA:MM.Far [] w wA:=by rw [← hwA];exact ((MM.Far.refl [] w).alloc _).alloc _
  have hz:=h.mc.z;have B1:Bx wA Z w.heap.size 69 (ptr q):=by rw [← hwA];exact (bx_new 69 (ptr q) rfl hz).alloc _
  have B2:Bx wA Z (w.heap.size+1) 3 (num i):=by rw [← hwA];exact bx_new 3 (num i) (sz_alloc w _) (z_alloc hz)
  have H0:Hid (RsI w0 wA Z q g dv lv dm C K B X m (.func (.func 51) #[] #[ptr w.heap.size,ptr (w.heap.size+1)]) wA) :=
    Lib.hid ⟨Z,Y,fv,tv,ov,[],N,rs,tops,[],some (.form i),B0,MM.Far.refl _ _,Yto.refl _ _,h.to FA,.form B1 B2,hgo,hm,hF,fun o ho=>absurd ho (by simp),fun p e=>by
      injection e with e;subst e;exact ⟨hi,ht,fun o ho=>absurd ho (by simp)⟩,(fun e=>nomatch e),rfl,⟨fun r hr=>absurd hr (by simp),Nat.zero_le _⟩,hN⟩
  have HFA:=Lib.hid FA;have HB1:=Lib.hid B1;have HB:=Lib.hid hB;have HL:=Lib.hid L;clear h hF hgo hm hB L B1 B2 FA hz hN ht;subst hwA;unfold num at *;unfold ptr at *;go_enter Tryd.func20,Tryd.ntmps20
  go_wp2;generalize (w.alloc (.cells #[.pointer (some ⟨q,0,none⟩)] 69)).alloc (.cells #[.int .i64 i] 3)=wA at *
  go_loopg [6] m (fun k v wr=>RsI w0 wA Z q g dv lv dm C K B X k v wr)
  case atStart=>exact H0.out
  case round =>
    obtain ⟨Z1,Y1,fv,tv,ov,R,N,rs,tops,os,nx,B0,hF1,hz1,hM,hN,hgo,hm,hFew,hG,hp,hnn,hO,hW,hK⟩:=hrel;have HM:=Lib.hid hM;have HF1:=Lib.hid hF1;have HZ1:=Lib.hid hz1;have HFew:=Lib.hid hFew;have HMm:=Lib.hid hm;have HG:=Lib.hid hG;have HO:=Lib.hid hO;have HW:=Lib.hid hW;have HK:=Lib.hid hK;have hne0:∀ W,(binOp .neq 96 .nilFunc .nilFunc).run Tryd.prog W = .ok (.bool false) W:=fun W=>by kernel_rfl
    cases nx with
    | none =>
      obtain rfl:os=[]:=hnn rfl;have hN2:u6 = .nilFunc:=hN;subst hN2;rw [goS_none] at hgo;injection hgo with hg;obtain rfl:R=[]:=hO;clear hF1 hz1 hM hm hFew hG hp hnn H0 hW hK;go_wp2;refine bodyPost_ret (v:=.tuple #[.int .i64 0,.int .i64 0]) (by simp [results,Tryd.results20,go_sem]) rfl ?_
      subst hg;exact ⟨rfl,(HFA.out.mono (fun b hb _=>by cases hb)).trans HF1.out (fun b hb _=>hb),Z1,Y1,fv,tv,ov,rs,⟨HZ1.out.sub,fun b hb=>(HZ1.out.new b hb).imp id (fun h=>Nat.le_trans HFA.out.size h)⟩,HM.out,rfl,⟨by have h1:=HFew.out.sum;have h2:=HMm.out;simp only [List.map_nil,List.length_nil] at h1 ⊢;omega,HFew.out.tops,HFew.out.head,HFew.out.tail⟩,HK.out⟩
    | some p =>
      obtain ⟨hTh,hT1,hHd⟩:=hp p rfl;have hRl:R.length < 1000000000:=by have h1:=hO.len;have h2:=hFew.sum;have:=HB.out;omega
      have hE:=hM.ev HL.out hK hW;obtain ⟨f0,cs,rfl,hcf,hC⟩:=part_ev hE hN hTh hRl;cases gk with
      | zero=>rw [goS_zero] at hgo;cases hgo
      | succ k =>
      rw [goS_succ] at hgo;have hnk:=ev_nk HL.out.gd hK R p hTh;obtain ⟨sn,N2,hsn⟩:∃ sn N2,evS C R N p=(sn,N2):=⟨_,_,rfl⟩
      rw [hsn] at hgo hC hnk;have HC:=Lib.hid hC;have HGO:=Lib.hid hgo;have HNK:=Lib.hid hnk;have hne:∀ W,(binOp .neq 96 (.func (.func f0) #[] cs) .nilFunc).run Tryd.prog W = .ok (.bool true) W:=fun W=>by kernel_rfl
      have HT1:=Lib.hid hT1;have HHD:=Lib.hid hHd;have HSIX:=Lib.hid (fun (f:Rf) (R':Rws) (ps:List Sp) (e:evS C R N p=(.mk f R' ps,N2))=>And.intro (ev_six HL.out.gd HL.out.fl hTh hW hRl e) (ev_th HL.out.gd hTh e));have HSN:=Lib.hid hsn;obtain ⟨wo,rfl⟩:∃ wo,wo=wr:=⟨_,rfl⟩
      clear hF1 hz1 hM hgo hm hFew hG hp hnn hN hC H0 hO hW hK hE hnk hTh hT1 hHd hRl hsn
      go_wp2_with (fail)
      refine HC.out.mono ?_
      rintro e w1 ⟨v,Y2,rfl,hY2,hF2,hS2,hI2⟩;have HM2:=Lib.hid (HM.out.eval hY2 hF2 hS2);have HZ2:=Lib.hid (evalZ HM.out.mc hY2);have HF2:=Lib.hid hF2;have HS2:=Lib.hid hS2;have HS:Hid (∀ b∈Y1,b∈Z1):=Lib.hid HM.out.mc.sub;clear hY2 hF2 hS2 HC hcf;have hbx1:w.heap.size∉Z1:=fun hm=>by
        rcases HZ1.out.new _ hm with h1 | h1
        · exact HB1.out.out h1
        · have:=HB1.out.lt;omega
      have hqZ:q∈Z1:=HS.out _ (Sc.qlt HM.out.sc);have hneq:¬ w.heap.size=q:=fun e=>hbx1 (e ▸ hqZ)
      have x0o:wo.cell? ⟨w.heap.size,0,none⟩=some (.pointer (some ⟨q,0,none⟩)):=(HF1.out.cell (p:=⟨w.heap.size,0,none⟩) HB1.out.lt HB1.out.out).trans HB1.out.at;have x01:=(HF2.out.cell (p:=⟨w.heap.size,0,none⟩) (MR.cell_lt x0o) (fun hm=>hbx1 (HS.out _ hm))).trans x0o;cases sn with
      | bad a e1 =>
        obtain ⟨rfl,hne1⟩:=hI2;unfold snV num badF
        go_upto_region 4 with fail
        have HRow:=MM.Row.new w1 100 [.int .i64 e1,.int .u8 0,.int .i64 a,.int .i64 0,.int .i64 0,.string emp,.slice none 0 0,.int .u64 0,.slice none 0 0,.slice none 0 0];have FB:=(MM.Far.refl [] w1).alloc (.cells #[.int .i64 e1,.int .u8 0,.int .i64 a,.int .i64 0,.int .i64 0,.string emp,.slice none 0 0,.int .u64 0,.slice none 0 0,.slice none 0 0] 100);replace HRow:MM.Row (w1.alloc (.cells #[.int .i64 e1,.int .u8 0,.int .i64 a,.int .i64 0,.int .i64 0,.string emp,.slice none 0 0,.int .u64 0,.slice none 0 0,.slice none 0 0] 100)) _ _ _:=HRow;generalize w1.alloc (.cells #[.int .i64 e1,.int .u8 0,.int .i64 a,.int .i64 0,.int .i64 0,.string emp,.slice none 0 0,.int .u64 0,.slice none 0 0,.slice none 0 0] 100)=W1 at *;obtain ⟨b,hb⟩:∃ b,w1.heap.size=b:=⟨_,rfl⟩
        rw [hb] at HRow ⊢;have n0:=HRow.at (i:=0) rfl;have n2:=HRow.at (i:=2) rfl;have HFB:=Lib.hid FB;clear HRow FB x0o x01
        go_upto_region 5 with fail
        go_region_held3 (fun w'=>w'.cell? ⟨b,0,none⟩=some (.int .i64 e1)∧w'.cell? ⟨b,2,none⟩=some (.int .i64 a)) (go_keep) (fail)
        go_wp2;refine bodyPost_ret (v:=.tuple #[.int .i64 a,.int .i64 e1]) (by simp [results,Tryd.results20,go_sem]) rfl ?_
        have hg:some (Except.error (a,e1,N2))=some X:=HGO.out;injection hg with hg;subst hg;refine ⟨rfl,?_,_,_,_,_,(⟨HZ1.out.sub,fun b hb=>(HZ1.out.new b hb).imp id (fun h=>Nat.le_trans HFA.out.size h)⟩:Yto w Z Z1).of HZ2.out (Nat.le_trans HFA.out.size HF1.out.size),(HM2.out.sc.to HFB.out).to ((MM.Far.refl [] W1).drew),fun b hb=>List.mem_append_left _ hb⟩
        have h1:=(HFA.out.mono (S':=Z) (fun b hb _=>by cases hb)).trans HF1.out (fun b hb _=>hb);exact ((far_y h1 ⟨HZ1.out.sub,fun b hb=>(HZ1.out.new b hb).imp id (fun h=>Nat.le_trans HFA.out.size h)⟩ HF2.out (fun b hb _=>HS.out b hb)).trans HFB.out (by simp)).drew
      | mk f R' ps =>
        obtain ⟨hfl,parts,vs,rfl,hSl,hIs⟩:=hI2;obtain ⟨A5,d5,rfl,-⟩:=hSl.form;obtain ⟨na,hna⟩:∃ na,vs.length=na:=⟨_,rfl⟩
        rw [hna] at hSl ⊢;obtain ⟨oA,oc,rfl⟩:=own_sl4 w0 HM2.out.mc.op;obtain ⟨⟨h6,hn6,hW2,hps⟩,hth2⟩:=HSIX.out f R' ps HSN.out;have HM3:Hid (Sy w0 w1 (Y2++Z1) Y2 q g dv lv dm (ownC C) R' N2 fv tv (.slice oA os.length oc) (.slice oA os.length oc) rs tops os []):=HM2;have HROP:=Lib.hid (RO.push HO.out h6 hn6 (ps:=ps));have HFP:=Lib.hid (HFew.out.push HT1.out HHD.out f hps);have HW2:=Lib.hid hW2;have HGS:Hid (GoodS C (⟨{ f with l:=[] },ps⟩::os.map (·.o))):=Lib.hid (fun o ho=>by
          rcases List.mem_cons.1 ho with rfl | ho
          · exact hth2
          · exact HG.out o ho)
        have hos:os.length≤900000000:=by have h1:=HFew.out.sum;have h2:=HMm.out;have h3:=HB.out;simp only [List.length_map] at h1;omega
        unfold snV num
        go_upto_region 4 with fail
        have HRow:MM.Row (w1.alloc (.cells #[.int .i64 0,.int .u8 f.kind,.int .i64 f.at_,.int .i64 f.n,.int .i64 f.a,.string f.s,.slice none 0 0,.int .u64 f.w,.slice none 0 0,.slice A5 na d5] 100)) w1.heap.size 100 [.int .i64 0,.int .u8 f.kind,.int .i64 f.at_,.int .i64 f.n,.int .i64 f.a,.string f.s,.slice none 0 0,.int .u64 f.w,.slice none 0 0,.slice A5 na d5]:=MM.Row.new w1 100 [.int .i64 0,.int .u8 f.kind,.int .i64 f.at_,.int .i64 f.n,.int .i64 f.a,.string f.s,.slice none 0 0,.int .u64 f.w,.slice none 0 0,.slice A5 na d5];have FB:=(MM.Far.refl [] w1).alloc (.cells #[.int .i64 0,.int .u8 f.kind,.int .i64 f.at_,.int .i64 f.n,.int .i64 f.a,.string f.s,.slice none 0 0,.int .u64 f.w,.slice none 0 0,.slice A5 na d5] 100);generalize w1.alloc (.cells #[.int .i64 0,.int .u8 f.kind,.int .i64 f.at_,.int .i64 f.n,.int .i64 f.a,.string f.s,.slice none 0 0,.int .u64 f.w,.slice none 0 0,.slice A5 na d5] 100)=W1 at *;obtain ⟨b,hb⟩:∃ b,w1.heap.size=b:=⟨_,rfl⟩
        rw [hb] at HRow ⊢;have n0:=HRow.at (i:=0) rfl;have n1:=HRow.at (i:=1) rfl;have n2:=HRow.at (i:=2) rfl;have n3:=HRow.at (i:=3) rfl;have n4:=HRow.at (i:=4) rfl;have n5:=HRow.at (i:=5) rfl;have n6:=HRow.at (i:=6) rfl;have n7:=HRow.at (i:=7) rfl;have n8:=HRow.at (i:=8) rfl;have n9:=HRow.at (i:=9) rfl;have HM4:=Lib.hid (HM3.out.to FB);have HP:Hid (∃ vs,Sl W1 (Y2++Z1) (.slice A5 na d5) vs∧Ips W1 (Y2++Z1) q vs ps):=Lib.hid ⟨vs,hSl.far FB (by simp),hIs.far FB (by simp)⟩;have x0:=far_cell FB x01;obtain ⟨bv,im,hh⟩:=HM4.out.head;have x9:W1.cell? ⟨q,9,none⟩=some (.slice oA os.length oc):=hh.at (i:=9) rfl;have f9:=hh.frozen 9;have HHH:=Lib.hid hh;have x0a:=far_cell ((MM.Far.refl [] W1).alloc (.cells #[.int .i64 0,.int .u8 f.kind,.int .i64 f.at_,.int .i64 f.n,.int .i64 f.a,.string f.s,.slice none 0 0,.int .u64 f.w,.slice none 0 0,.slice A5 na d5] 100)) x0;have x9a:=far_cell ((MM.Far.refl [] W1).alloc (.cells #[.int .i64 0,.int .u8 f.kind,.int .i64 f.at_,.int .i64 f.n,.int .i64 f.a,.string f.s,.slice none 0 0,.int .u64 f.w,.slice none 0 0,.slice A5 na d5] 100)) x9;have HFB:=Lib.hid FB;clear HRow FB x0o x01 hh hSl hIs hfl h6 hn6 hW2 hps hth2 HM2 HM3 hna
        go_upto_region 6 with fail
        go_cut [] from 11 to 35 (fun wx=>Cut3 w0 wA wo Z q g dv lv dm fv tv C R' N2 rs tops (os.length+1) ((⟨⟨{ f with l:=[] },ps⟩,.slice none 0 0,.slice A5 na d5⟩:Pz)::os) w.heap.size wx)
        case first =>
          go_region_law (
            refine MO.step_append ?_ (.tmp 27) (.tmp 29) 74 ?_ w0.heap.size 100 _ 10 136 plansZ_slice planZ_info rfl (by omega) (.slice oA os.length oc) os.length (pzC os.reverse) ?_ ?_ (some ⟨W1.heap.size,0,none⟩) 1 1 (pzL ⟨⟨{ f with l:=[] },ps⟩,.slice none 0 0,.slice A5 na d5⟩) ?_ rfl (fun h=>by cases h) [] ?_ ?_ ?_ ?_ ?_ ?_
            · rfl
            · rfl
            · rfl
            · exact HM4.out.mc.op.alloc _
            · rfl
            · exact (MM.Src.row (MM.Row.new W1 100 (pzL ⟨⟨{ f with l:=[] },ps⟩,.slice none 0 0,.slice A5 na d5⟩)) (by simp) _ (fun j u hu=>hu))
            · exact pz_one ⟨⟨{ f with l:=[] },ps⟩,.slice none 0 0,.slice A5 na d5⟩ rfl rfl
            · simp only [maxLen];omega
            · omega
            · have:=HM4.out.far.size;simp;omega
            intro v2 w2 hv2 hg2 hat2;obtain ⟨A2,c2x,rfl⟩:=own_sl4 w0 hv2;have hat3:(Value.slice A2 (os.length+1) c2x).ownBlock=(Value.slice oA os.length oc).ownBlock∨∃ b,(Value.slice A2 (os.length+1) c2x).ownBlock=some b∧W1.heap.size≤b:=hat2.imp id (fun e=>⟨_,e,((MM.Far.refl [] W1).alloc _).drew.size⟩);have F2:MM.Far (Value.slice oA os.length oc).ownBlock.toList W1 w2:=RC6.far_app hg2;have HH2:Hid (MM.Row w2 q 76 _):=Lib.hid (HHH.out.far F2 (fun hm=>MM.own_row_ne HM4.out.mc.op HHH.out (by decide) (by simpa using hm)));have d9W:=HH2.out.at (i:=9) rfl;have e9W:=HH2.out.frozen 9;have hbZ:w.heap.size∉(Value.slice oA os.length oc).ownBlock.toList:=fun hm=>by
              have h1:=HM4.out.mc.zo _ (by simpa using hm)
              rcases List.mem_append.1 h1.1 with h2 | h2
              · exact h1.2 h2
              · exact hbx1 h2
            have x2:=(F2.cell (p:=⟨w.heap.size,0,none⟩) (MR.cell_lt x0) hbZ).trans x0;have HN:=Lib.hid (HM4.out.push (w1:=w2) (⟨⟨{ f with l:=[] },ps⟩,.slice none 0 0,.slice A5 na d5⟩:Pz) rfl rfl HP.out hv2 F2 hat3);have HA2:=Lib.hid (newZ (v':=.slice A2 (os.length+1) c2x) HM4.out.mc.zo hat3);have HX2:=Lib.hid F2;clear hg2 hv2 hat2 hat3 F2)
          all_goals
            go_wp2_with fail
            go_meet
            have g1:MM.Far Z1 wo w2:=(((HF2.out.mono (fun b hb _=>HS.out b hb)).trans HFB.out (by simp)).trans HX2.out (fun x hx hl=>by
              have h1:=HM4.out.mc.zo x (by simpa using hx)
              rcases List.mem_append.1 h1.1 with h2 | h2
              · exact absurd h2 h1.2
              · exact h2))
            have hy:MM.Far Z wA (w2.setCell ⟨q,9,none⟩ (.slice A2 (os.length+1) c2x)):=far_y HF1.out HZ1.out (g1.trans (cellF w2 q 9 (.slice A2 (os.length+1) c2x)) (fun x hx _=>by simp at hx;subst hx;exact hqZ)) (fun x hx _=>hx);refine ⟨_,_,A2,c2x,hy,(HZ1.out.of HZ2.out HF1.out.size).of HA2.out ?_,HN.out,?_,?_⟩
            · exact Nat.le_trans HF1.out.size (Nat.le_trans HF2.out.size HFB.out.size)
            · exact ((cellF w2 q 9 (.slice A2 (os.length+1) c2x)).cell (p:=⟨w.heap.size,0,none⟩) (MR.cell_lt x2) (by simpa using hneq)).trans x2
            · exact Nat.le_trans g1.size (cellF w2 q 9 (.slice A2 (os.length+1) c2x)).size
        case rest =>
          obtain ⟨Z3,Y3,A2,c2x,hF3,hz3,hM3,y0,hsz⟩:=hcut;have HGON:=Lib.hid (goOn_any (B:=B0+1) (by have:=HMm.out;have:=HB.out;omega) hM3 HFP.out HROP.out HW2.out);have HF3:=Lib.hid hF3;have HZ3:=Lib.hid hz3;clear hF3 hz3 hM3 x0 x0a x9 x9a f9 n0 n1 n2 n3 n4 n5 n6 n7 n8 n9 HP HHH
          go_wp2_with (first
            | (go_at_call 38;(with_reducible refine HGON.out.mono ?_);rintro e w7 ⟨v7,Z7,Y7,fv7,tv7,ov7,rs7,os7,rfl,hF7,hz7,hM7,hr7,ho7,hn7,hf7,hO7,hW7⟩;have HF7:=Lib.hid hF7;have HZ7:=Lib.hid hz7;have HM7:=Lib.hid hM7;have HR7:=Lib.hid hr7;have HO7:=Lib.hid ho7;have HN7:=Lib.hid hn7;have HFW7:=Lib.hid hf7;have HRO7:=Lib.hid hO7;have HRW7:=Lib.hid hW7;clear hF7 hz7 hM7 hr7 ho7 hn7 hf7 hO7 hW7))
          go_roundg k
          case measure=>omega
          case rel =>
            have hg:goS C k N2 (goOnS (rs.map (·.1)) tops R' (⟨{ f with l:=[] },ps⟩::os.map (·.o)))=some X:=HGO.out;have hgd:=goOnS_good C _ (⟨{ f with l:=[] },ps⟩::os.map (·.o)) rfl (rs.map (·.1)) tops R' HGS.out;have hen:=goOnS_end _ (⟨{ f with l:=[] },ps⟩::os.map (·.o)) rfl (rs.map (·.1)) tops R';have hR7:=HR7.out;have hO7:=HO7.out;have hN7:=HN7.out;have hM7:=HM7.out;have hf7:=HFW7.out;have hro7:=HRO7.out;have hrw7:=HRW7.out;simp only [List.map_cons] at hR7 hO7 hN7 hM7 hf7 hro7 hrw7
            obtain ⟨G,hG2⟩:∃ G,goOnS (rs.map (·.1)) tops R' (⟨{ f with l:=[] },ps⟩::os.map (·.o))=G:=⟨_,rfl⟩
            rw [hG2] at hg hgd hen hR7 hO7 hN7 hM7 hf7 hro7 hrw7;obtain ⟨r1,r2,r3,r4,r5⟩:=G;simp only at hgd hen hR7 hO7 hN7 hM7 hf7 hro7 hrw7
            subst hR7 hO7;refine ⟨Z7,Y7,fv7,tv7,ov7,r3,N2,rs7,r2,os7,r5,B0+1,far_y HF3.out HZ3.out HF7.out (fun x hx _=>hx),HZ3.out.of HZ7.out HF3.out.size,hM7,hN7,hg,by have:=HMm.out;omega,hf7,hgd,fun p e=>?_,fun e=>List.map_eq_nil_iff.1 (hen.1 e),hro7,hrw7,HNK.out⟩
            obtain ⟨o,os8,e8,hlt,hmem⟩:=hen.2 p e;have ht:=hf7.tops;rw [e8] at ht ⊢;refine ⟨hgd o (by rw [e8];exact List.mem_cons_self ..) p hmem,by simp at ht;omega,fun x hx=>?_⟩
            simp at hx
            exact hx ▸ hlt
end
end SM
end Go.Proofs.YtodjaabcjojlkaaDoor
