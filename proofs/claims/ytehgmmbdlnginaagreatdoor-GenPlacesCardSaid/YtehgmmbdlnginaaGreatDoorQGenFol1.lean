/-
  Several texts in one: GenC10,GenBk,GenFol1.
-/
import Derived.Test.YtehgmmbdlnginaaGreatDoorQGenC9
import Derived.Test.YtehgmmbdlnginaaGreatDoorQGenRun
import Derived.RangeFuncNested
import Derived.RangeFuncBound
import Derived.RangeFuncCalls
import Derived.RangeFuncLeaves
import Derived.Shelf.Abstract
import Derived.Shelf.RegionOpen
import Derived.WalkKit
import Derived.OwnWalkIn
import Derived.TacticsInMore
import Derived.LoopNIn
import Derived.LoopIn
import Derived.Maps.AppendAt
import Derived.Sort.LoopGhostIn
namespace Go.Proofs.YtehgmmbdlnginaaGreatDoor
open Go.RowKit
set_option linter.unusedVariables false
namespace GW
open LX SX RW6 EX KP SC GP
open EW (Sl Bx)
section
variable {base:Nat} {w W w':World} {q:Nat} {fv bv:Value} {ks:List Value} {ad:List Nat} {s:Gs} {y:List Stp × Gs} {e:Ending}
set_option maxHeartbeats 4000000 in
set_option maxRecDepth 20000 in
theorem last_call {row:List Rf} (hM:Mg base w q fv bv ks ad s) (hbase:base≤w.heap.size) {b i:Nat} {v:Value} (hI:IsS w (Zof q bv ks ad) q ad v (.last b i)) (hR:Fr w (Zof q bv ks ad) fv row) (hok:okS row (.last b i) s) (hn:s.bs.length≤100000000000) (hlen:(rfAt row i).l.length≤100000) :
    ∃ f cs,v = .func (.func f) #[] cs∧(∀ W,(callFunc f cs).run Tryz.prog W = .ok (.enter f cs) W)∧Calls Tryz.prog f cs w (CallQ base w q fv bv ks ad (stp row (.last b i) s)):=by
  obtain ⟨bg,bi,bb,rfl,h1,h2,h3⟩:=hI;obtain ⟨hb,hi,hFo⟩:=hok;refine ⟨_,_,rfl,fun W=>by kernel_rfl,?_⟩
  show Calls _ _ _ _ (CallQ base w q fv bv ks ad (lastS (rfAt row i) b i s))
  obtain ⟨y,hy0⟩:∃ y,lastS (rfAt row i) b i s=y:=⟨_,rfl⟩
  rw [hy0];obtain ⟨FA,fc,rfl,hR⟩:=hR;obtain ⟨fb,fo,LA,lc,rfl,hz,hfb,d0,d1,d2,d3,d4,d5,d6,d7,hS⟩:=hR i hi;rw [rf_at hi] at hFo hlen hy0;generalize row[i]=f at *;obtain ⟨kind,at_,n,a,st,ww,l⟩:=f;simp only at d0 d1 d2 d3 d4 d5 d6 d7 hS hlen
  obtain ⟨m,hm⟩:∃ m,l.length=m:=⟨_,rfl⟩
  obtain ⟨N,hN⟩:∃ N,row.length=N:=⟨_,rfl⟩
  have c1:=h1.at;have c2:=hM.head.at (i:=0) rfl;have c3:=h2.at;have HB2:=Lib.hid h2;have i0:(0:Int)≤(i:Int):=by omega
  have i1:(i:Int) < (N:Int):=by omega
  have HM:=Lib.hid hM;have HS:=Lib.hid hS;have HL:=Lib.hid hm;have HFo:=Lib.hid hFo;have HY:=Lib.hid hy0;clear hy0;have HB1:=Lib.hid h1;have HB3:=Lib.hid h3;rw [hN] at c2;rw [hm] at d7 hlen;clear hM hS hm hFo h1 h2 h3 hR hz hi hN;go_enter Tryz.func118,Tryz.ntmps118
  go_wp2
  go_region_held3 (fun w'=>w'.cell? ⟨bg,0,none⟩=some (ptr q)∧w'.cell? ⟨q,0,none⟩=some (.slice (some ⟨fb,fo,none⟩) N fc)∧w'.cell? ⟨bi,0,none⟩=some (num i)∧w'.cell? ⟨fb,fo+i*8,none⟩=some (.int .u8 kind)∧w'.cell? ⟨fb,fo+i*8+1,none⟩=some (num at_)∧w'.cell? ⟨fb,fo+i*8+2,none⟩=some (num n)∧w'.cell? ⟨fb,fo+i*8+3,none⟩=some (num a)∧w'.cell? ⟨fb,fo+i*8+4,none⟩=some (.string st)∧w'.cell? ⟨fb,fo+i*8+5,none⟩=some (.slice none 0 0)∧w'.cell? ⟨fb,fo+i*8+6,none⟩=some (.int .u64 ww)∧w'.cell? ⟨fb,fo+i*8+7,none⟩=some (.slice LA m lc)) (first | (with_reducible assumption) | go_keep) (fail)
  have HW0:Hid ((w.alloc (.cells #[.int .u8 kind,num at_,num n,num a,.string st,.slice none 0 0,.int .u64 ww,.slice LA m lc] 39)).drew=(w.alloc (.cells #[.int .u8 kind,num at_,num n,num a,.string st,.slice none 0 0,.int .u64 ww,.slice LA m lc] 39)).drew):=Lib.hid rfl;have FW:MM.Far [] w (w.alloc (.cells #[.int .u8 kind,num at_,num n,num a,.string st,.slice none 0 0,.int .u64 ww,.slice LA m lc] 39)).drew:=((MM.Far.refl [] w).alloc _).drew;have r0:MM.Row (w.alloc (.cells #[.int .u8 kind,num at_,num n,num a,.string st,.slice none 0 0,.int .u64 ww,.slice LA m lc] 39)).drew w.heap.size 39 [.int .u8 kind,num at_,num n,num a,.string st,.slice none 0 0,.int .u64 ww,.slice LA m lc]:=(MM.Row.new w _ _).drew;generalize (w.alloc (.cells #[.int .u8 kind,num at_,num n,num a,.string st,.slice none 0 0,.int .u64 ww,.slice LA m lc] 39)).drew=W at *;clear HW0 c1 c2 c3 d0 d1 d2 d3 d4 d5 d6 d7 i0 i1;have HM1:=Lib.hid (HM.out.far FW (by simp));have HS1:=Lib.hid (HS.out.far FW (by simp));have HZ1:=Lib.hid (fun x hx=>(HM1.out.z x hx).1);have hbW:=Nat.le_trans hbase FW.size;have HFW:=Lib.hid FW;have g1:=(HB1.out.far FW (by simp)).at;have g3:=(HB3.out.far FW (by simp)).at;have g2:=(HB2.out.far FW (by simp)).at;have z0:=r0.at (i:=0) rfl;have z1:=r0.at (i:=1) rfl;have z2:=r0.at (i:=2) rfl;have z3:=r0.at (i:=3) rfl;have z4:=r0.at (i:=4) rfl;have z5:=r0.at (i:=5) rfl;have z6:=r0.at (i:=6) rfl;have z7:=r0.at (i:=7) rfl;obtain ⟨kb,hkb⟩:∃ kb,w.heap.size=kb:=⟨_,rfl⟩
  rw [hkb] at z0 z1 z2 z3 z4 z5 z6 z7 r0 ⊢;clear HM HS HB1 HB2 HB3 FW r0 hkb;have hy:=HY.out;unfold lastS at hy;simp only at hy
  clear HY;by_cases k5:kind=5
  · rw [if_pos k5] at hy;subst hy k5;obtain rfl:m=3:=HL.out.symm.trans (HFo.out.k5 rfl);have HC:=Lib.hid (lastChoice_any HM1.out hbW b (f:=⟨5,at_,n,a,st,ww,l⟩) HL.out (by rw [HL.out] at HS1;exact HS1.out))
    go_wp2_with (first
      | (go_at_call 119;refine HC.out.mono ?_;intro e w1 hQ;obtain ⟨bv',ks',t,v,vs,rfl,hQ2⟩:=hQ;have HQ:=Lib.hid (show CallQ base W q _ _ ks ad _ _ _ from ⟨bv',ks',t,v,vs,rfl,hQ2⟩);obtain ⟨pA,pc,rfl,_⟩:=MO.form hQ2.2.1;clear hQ2))
    go_ret
    exact HQ.out.from_ HFW.out
  have e5:(kind == 5)=false:=by simpa using k5
  rw [if_neg k5] at hy;by_cases k8:kind=8
  · rw [if_pos k8] at hy;subst hy k8;have HC:=Lib.hid (lastSeq_any W q ad HZ1.out b HL.out hlen (by rw [HL.out] at HS1;exact HS1.out))
    go_wp2_with (first
      | (go_at_call 37;refine HC.out.mono ?_;intro e w1 hQ;obtain ⟨pA,pc,pvs,rfl,hpl,hpo,hpi,hpf⟩:=rowQ_form hQ;have HQ:=Lib.hid (rowQ_of ⟨pvs,hpo,hpi,hpf⟩);clear hQ hpo hpi hpf hpl))
    go_ret
    exact CallQ.row HQ.out HM1.out HFW.out
  have e8:(kind == 8)=false:=by simpa using k8
  rw [if_neg k8] at hy;by_cases k10:kind=10
  · rw [if_pos k10] at hy;subst hy k10;obtain ⟨m,rfl⟩:∃ m',m=m'+1:=⟨m - 1,by have:=HFo.out.k10 rfl;have:=HL.out;simp only at *;omega⟩
    have HC:=Lib.hid (call_any W q ad HZ1.out b 13 (f:=⟨10,at_,n,a,st,ww,l⟩) HL.out (by omega) (by rw [HL.out] at HS1;exact HS1.out))
    go_wp2_with (first
      | (go_at_call 120;refine HC.out.mono ?_;intro e w1 hQ;obtain ⟨pA,pc,pvs,rfl,hpl,hpo,hpi,hpf⟩:=rowQ_form hQ;have HQ:=Lib.hid (rowQ_of ⟨pvs,hpo,hpi,hpf⟩);clear hQ hpo hpi hpf hpl))
    go_ret
    exact CallQ.row HQ.out HM1.out HFW.out
  have e10:(kind == 10)=false:=by simpa using k10
  rw [if_neg k10] at hy;by_cases k12:kind=12∧n=18
  · rw [if_pos k12] at hy;obtain ⟨k12,k18⟩:=k12;subst hy k12 k18;obtain rfl:m=1:=HL.out.symm.trans (HFo.out.k18 rfl rfl);have HC:=Lib.hid (callCC_any W q ad HZ1.out b 15 (f:=⟨12,at_,18,a,st,ww,l⟩) HL.out (by rw [HL.out] at HS1;exact HS1.out))
    go_wp2_with (first
      | (go_at_call 121;refine HC.out.mono ?_;intro e w1 hQ;obtain ⟨pA,pc,pvs,rfl,hpl,hpo,hpi,hpf⟩:=rowQ_form hQ;have HQ:=Lib.hid (rowQ_of ⟨pvs,hpo,hpi,hpf⟩);clear hQ hpo hpi hpf hpl))
    go_ret
    exact CallQ.row HQ.out HM1.out HFW.out
  rw [if_neg k12] at hy;subst hy;have HA:=Lib.hid (Acc.nil (w:=W) q ad (MM.Far.refl [] W) HZ1.out);have HRET:=Lib.hid (fun (wx:World) (hz:∀ x∈Zof q bv ks ad,x < wx.heap.size) (vf:FuncId) (vl:Array Value) (hF:MM.Far [] W wx) (hI:IsS wx (Zof q bv ks ad) q ad (.func (.func vf) #[] vl) (.val b i)) =>
    returned_any (wx.alloc (.cells #[.func (.func vf) #[] vl] 141)) q ad (z_alloc hz) b (base:=W.heap.size) (n:=1) (v:=.slice (some ⟨wx.heap.size,0,none⟩) 1 1) (vs:=[.func (.func vf) #[] vl]) (xs:=[.val b i]) (Nat.le_trans hF.size ((MM.Far.refl [] wx).alloc _).size) (own_new (l:=[.func (.func vf) #[] vl]) hF.size rfl (by decide)) (by decide) ((Iss.one hI).far ((MM.Far.refl [] wx).alloc _) (by simp)))
  by_cases k12a:kind=12
  · subst k12a;have k18:(n == 18)=false:=by simpa using fun e=>k12 ⟨rfl,e⟩
    go_wp2
    go_region_held3 (fun w'=>w'.cell? ⟨bg,0,none⟩=some (ptr q)∧w'.cell? ⟨bb,0,none⟩=some (num b)∧w'.cell? ⟨bi,0,none⟩=some (num i)) (first | (with_reducible assumption) | go_keep) (first
      | (go_at_call 117;(first | (with_reducible refine (value_any _ q ad HA.out.z b _).mono ?_) | (have HA:=Lib.hid HA.out.dr;(with_reducible refine (value_any _ q ad HA.out.z b _).mono ?_)));rintro e w1 ⟨v,rfl,hI,hF⟩;obtain ⟨vf,vl,rfl⟩:=hI.func;have hk:=keep3 hF (by assumption);have HIv:=Lib.hid hI;have HA:=Lib.hid (HA.out.go hF);clear hI hF)
      | (go_at_call 75;(with_reducible refine (HRET.out _ HA.out.z vf vl HA.out.far HIv.out).mono ?_);rintro e w4 ⟨v',vs',rfl,h1,h2,h3⟩;obtain ⟨rA,rc,rfl,_⟩:=MO.form h1;have ho:=own_new (base:=W.heap.size) (l:=[.func (.func vf) #[] vl]) (t:=141) HA.out.far.size rfl (show 1≤maxLen by decide);have f1:=HA.out.far.trans ((MM.Far.refl [] _).alloc (.cells #[.func (.func vf) #[] vl] 141)) (by simp);have hk:=And.intro (keep_own f1 h3 ho (Nat.le_refl _) g1) (And.intro (keep_own f1 h3 ho (Nat.le_refl _) g3) (keep_own f1 h3 ho (Nat.le_refl _) g2));have HQ:=Lib.hid (rowQ_of (w:=W) ⟨vs',h1,h2,f1.trans h3 (fun b hb _=>by have:=(MM.own_lt ho b (by simpa using hb)).2;omega)⟩);clear h1 h2 h3 ho f1)
      | fail)
    go_wp2;go_ret
    exact CallQ.row HQ.out HM1.out HFW.out
  · have e12:(kind == 12)=false:=by simpa using k12a
    go_wp2
    go_region_held3 (fun w'=>w'.cell? ⟨bg,0,none⟩=some (ptr q)∧w'.cell? ⟨bb,0,none⟩=some (num b)∧w'.cell? ⟨bi,0,none⟩=some (num i)) (first | (with_reducible assumption) | go_keep) (first
      | (go_at_call 117;(first | (with_reducible refine (value_any _ q ad HA.out.z b _).mono ?_) | (have HA:=Lib.hid HA.out.dr;(with_reducible refine (value_any _ q ad HA.out.z b _).mono ?_)));rintro e w1 ⟨v,rfl,hI,hF⟩;obtain ⟨vf,vl,rfl⟩:=hI.func;have hk:=keep3 hF (by assumption);have HIv:=Lib.hid hI;have HA:=Lib.hid (HA.out.go hF);clear hI hF)
      | (go_at_call 75;(with_reducible refine (HRET.out _ HA.out.z vf vl HA.out.far HIv.out).mono ?_);rintro e w4 ⟨v',vs',rfl,h1,h2,h3⟩;obtain ⟨rA,rc,rfl,_⟩:=MO.form h1;have ho:=own_new (base:=W.heap.size) (l:=[.func (.func vf) #[] vl]) (t:=141) HA.out.far.size rfl (show 1≤maxLen by decide);have f1:=HA.out.far.trans ((MM.Far.refl [] _).alloc (.cells #[.func (.func vf) #[] vl] 141)) (by simp);have hk:=And.intro (keep_own f1 h3 ho (Nat.le_refl _) g1) (And.intro (keep_own f1 h3 ho (Nat.le_refl _) g3) (keep_own f1 h3 ho (Nat.le_refl _) g2));have HQ:=Lib.hid (rowQ_of (w:=W) ⟨vs',h1,h2,f1.trans h3 (fun b hb _=>by have:=(MM.own_lt ho b (by simpa using hb)).2;omega)⟩);clear h1 h2 h3 ho f1)
      | fail)
    go_wp2;go_ret
    exact CallQ.row HQ.out HM1.out HFW.out
end
end GW
end Go.Proofs.YtehgmmbdlnginaaGreatDoor
namespace Go.Proofs.YtehgmmbdlnginaaGreatDoor
open Go.RowKit Go.Shelf
set_option linter.unusedVariables false
attribute [local go_sem] Oper.semAt_some
namespace GW
open LX SX RW6 EX KP SC GP
abbrev Fa:=FuncId × Array Value
@[reducible] def fvV (x:Fa):Value:=.func (.func x.1) #[] x.2
def d0:Fa:=(0,#[])
def bk (l:List Fa) (k:Nat):List (Int × Fa):=(List.range k).map fun (j:Nat)=>((l.length:Int) - 1 - (j:Int),l.getD (l.length - 1 - j) d0)
theorem bk_succ (l:List Fa) (k:Nat):bk l (k+1)=bk l k++[((l.length:Int) - 1 - k,l.getD (l.length - 1 - k) d0)]:=by unfold bk;rw [List.range_succ,List.map_append];rfl
theorem bk_len (l:List Fa) (k:Nat):(bk l k).length=k:=by unfold bk;simp
theorem bk_all (l:List Fa):(bk l l.length).map (·.2)=l.reverse:=by
  unfold bk;rw [List.map_map];apply List.ext_getElem
  · simp
  · intro i h1 h2;have h3:i < l.length:=by simpa using h2
    rw [List.getElem_map,List.getElem_range,List.getElem_reverse];show l.getD (l.length - 1 - i) d0=_
    rw [List.getD_eq_getElem?_getD,List.getElem?_eq_getElem (by omega)];rfl
def KeepB (L:List Nat) (W W':World):Prop:=∀ b∈L,W'.heap[b]? = W.heap[b]?
theorem KeepB.trans {L:List Nat} {A B C:World} (h:KeepB L A B) (k:KeepB L B C):KeepB L A C:=fun b hb=>(k b hb).trans (h b hb)
theorem KeepB.refl (L:List Nat) (W:World):KeepB L W W:=fun _ _=>rfl
theorem KeepB.cell {L:List Nat} {W W':World} (h:KeepB L W W') {p:Addr} (hp:p.block∈L):W'.cell? p=W.cell? p:=World.cell?_of_block (w:=W) (h _ hp)
theorem keepB_b {L:List Nat} {w:World} (hL:∀ b∈L,b < w.heap.size) (W:World) (l:Nat) (o o':Obj) (hl:w.heap.size≤l) (h:W.heap[l]? = some o) (_:o.isCells=false) (_:o.isWalk=false):KeepB L W (W.putObj l o'):=fun b hb=>(World.putObj_heap_other (by have:=hL b hb;omega))
set_option maxRecDepth 100000 in
set_option maxHeartbeats 2000000 in
theorem bk1_in (F:Fence) (n:Nat) (hf:F.fn 115) (hro:F.round=none) (hn:1≤n) (l Bs:Nat) (L:List Nat) (hBL:Bs∈L) (A:Option Addr) (m c:Nat) (hmx:m≤1000000000000) (xs:List Fa) (hx:xs.length=m) (J Jx:List (Int × Fa)→World→Prop)
    (hY:∀ pre x W,J pre W→pre.length < m→YieldAt F (n - 1) Tryz.prog l #[num x.1,fvV x.2] W fun e W' =>
      (e = .returned (.bool true)∧J (pre++[x]) W'∧KeepB L W W')∨(e = .returned (.bool false)∧Jx (pre++[x]) W'))
    (W:World) (hBs:W.cell? ⟨Bs,0,none⟩=some (.slice A m c)) (hA:∀ k u,xs[k]? = some u→∃ g,A=some ⟨g,0,none⟩∧g∈L∧W.cell? ⟨g,k,none⟩=some (fvV u)) (h0:J [] W) :
    CallsIn F n Tryz.prog 115 #[.func (.yield l) #[] #[],ptr Bs] W fun e W'=>(∃ v,e = .returned v) ∧
      ((∃ ys,ys=bk xs m∧J ys W')∨(∃ pre,(∃ k,pre=bk xs k)∧Jx pre W')):=by
  refine callsIn_of_wp Tryz.func115 rfl hf ?_ hro
  simp only [Tryz.ntmps115,List.size_toArray,List.length_cons,List.length_nil,Nat.reduceAdd,Nat.reduceSub,Array.replicate_succ,Array.replicate_zero,List.push_toArray,List.append_toArray,List.nil_append,List.cons_append]
  have HX:=Lib.hid hx;have HA:=Lib.hid hA;clear hx hA
  gi_wp2
  gi_loopw [3] (fun i wr=>∃ k:Nat,k≤m∧i=num ((m:Int) - 1 - k)∧Hid (J (bk xs k) wr)∧Hid (KeepB L W wr)) (fun i _=>(intOf i+1).toNat)
  case atStart=>exact ⟨0,Nat.zero_le _,by go_num,Lib.hid h0,Lib.hid (KeepB.refl _ _)⟩
  case round =>
    obtain ⟨k,hk,rfl,hJs,hkp⟩:=hrel;have hB2:=(hkp.out.cell (p:=⟨Bs,0,none⟩) hBL).trans hBs;by_cases hlt:k < m
    · obtain ⟨idx,hidx⟩:∃ idx:Nat,m - 1 - k=idx:=⟨_,rfl⟩
      have hi:(m:Int) - 1 - k=(idx:Int):=by omega
      have hlx:idx < xs.length:=by rw [HX.out];omega
      obtain ⟨g,rfl,hg,hc⟩:=HA.out idx _ (List.getElem?_eq_getElem hlx);have hc2:=(hkp.out.cell (p:=⟨g,idx,none⟩) hg).trans hc;have HS:Hid (bk xs (k+1)=bk xs k++[((idx:Int),xs[idx])]):=Lib.hid (by
        rw [bk_succ,HX.out,hi,hidx,List.getD_eq_getElem?_getD,List.getElem?_eq_getElem hlx];rfl)
      obtain ⟨fn,tmps,assign,body,hy,hR⟩:=hY _ ((idx:Int),xs[idx]) wr hJs.out (by rw [bk_len];exact hlt);generalize xs[idx]=u at *;obtain ⟨uf,ul⟩:=u
      dsimp only [fvV] at hy hc2
      have i0:(0:Int)≤(idx:Int):=by omega
      have i1:(idx:Int) < (m:Int):=by omega
      have HI:Hid ((m:Int) - 1 - ((k+1:Nat):Int)=(idx:Int) - 1):=Lib.hid (by omega);rw [hi];clear hc hidx hi hlx
      gi_wp2
      refine hR.mono ?_
      rintro e W3 (⟨rfl,hJ3,hk3⟩ | ⟨rfl,hJx3⟩)
      · gi_wp2
        go_roundw
        case rel=>exact ⟨k+1,by omega,by rw [HI.out],Lib.hid (by rw [HS.out];exact hJ3),Lib.hid (hkp.out.trans hk3)⟩
        case measure=>simp [intOf]
      · gi_wp2
        refine bodyPost_ret (results_none rfl _ _ _) rfl ?_
        exact ⟨⟨_,rfl⟩,.inr ⟨_,⟨k+1,HS.out.symm⟩,hJx3⟩⟩
    · obtain rfl:k=m:=by omega
      have hi:(k:Int) - 1 - k = -1:=by omega
      rw [hi]
      gi_wp2
      go_end0
      exact ⟨⟨_,rfl⟩,.inl ⟨_,rfl,hJs.out⟩⟩
set_option maxHeartbeats 1000000 in
theorem bk_in (F:Fence) (n:Nat) (hf:F.fn 73) (hro:F.round=none) (a:Option Addr) (len cap:Nat) (w:World) :
    CallsIn F n Tryz.prog 73 #[.slice a len cap] w fun e w'=>e = .returned (.func (.func 115) #[] #[ptr w.heap.size])∧w'=w.alloc (.cells #[.slice a len cap] 101):=by
  refine callsIn_of_wp Tryz.func73 rfl hf ?_ hro
  simp only [Tryz.ntmps73,List.size_toArray,List.length_cons,List.length_nil,Nat.reduceAdd,Nat.reduceSub,Array.replicate_succ,Array.replicate_zero,List.push_toArray,List.append_toArray,List.nil_append,List.cons_append]
  gi_wp2
  go_ret
  exact ⟨rfl,rfl⟩
theorem bk_stops (F:Fence) (n:Nat) (hf:F.fn 115) (hro:F.round=none) (hn:1≤n) (Bs:Nat) (L:List Nat) (hBL:Bs∈L) (w:World) (hL:∀ b∈L,b < w.heap.size) (A:Option Addr) (m c:Nat) (hmx:m≤1000000000000) (xs:List Fa) (hx:xs.length=m)
    (hBs:w.cell? ⟨Bs,0,none⟩=some (.slice A m c)) (hA:∀ k u,xs[k]? = some u→∃ g,A=some ⟨g,0,none⟩∧g∈L∧w.cell? ⟨g,k,none⟩=some (fvV u)) :
    SeqStopsK F n Tryz.prog 115 #[ptr Bs] (fun x:Int × Fa=>#[num x.1,fvV x.2]) (KeepB L) (fun ys=>ys=bk xs m) (fun pre=>∃ k,pre=bk xs k) m w:=fun l J Jx W hW _ _ hY h0 =>
  bk1_in F n hf hro hn l Bs L hBL A m c hmx xs hx J Jx hY W ((hW.cell (p:=⟨Bs,0,none⟩) (hL _ hBL)).trans hBs) (fun k u hu=>by
    obtain ⟨g,e,hg,hc⟩:=hA k u hu;exact ⟨g,e,hg,(hW.cell (p:=⟨g,k,none⟩) (hL _ hg)).trans hc⟩) h0
end GW
end Go.Proofs.YtehgmmbdlnginaaGreatDoor
namespace Go.Proofs.YtehgmmbdlnginaaGreatDoor
open Go.RowKit Go.Shelf
set_option linter.unusedVariables false
namespace GW
open LX SX RW6 EX KP SC GP
open EW (Sl Bx)
theorem step_call {row:List Rf} {base:Nat} {w:World} {q:Nat} {fv bv:Value} {ks:List Value} {ad:List Nat} {s:Gs} {v:Value} {x:Stp} (hM:Mg base w q fv bv ks ad s) (hbase:base≤w.heap.size) (hI:IsS w (Zof q bv ks ad) q ad v x) (hR:Fr w (Zof q bv ks ad) fv row) (hok:okS row x s) (hn:s.bs.length≤100000000000)
    (hlen:∀ b,lenB s.bs b≤1000000000000) (hl:∀ i,(rfAt row i).l.length≤100000) :
    ∃ f cs,v = .func (.func f) #[] cs∧(∀ W,(callFunc f cs).run Tryz.prog W = .ok (.enter f cs) W)∧Calls Tryz.prog f cs w (CallQ base w q fv bv ks ad (stp row x s)):=by
  cases x with
  | put b x=>exact put_call hM hbase hI hok hn (hlen b)
  | leap b op k=>exact leap_call hM hbase hI hok.1 hn (hlen b)
  | land b k=>exact land_call hM hbase hI hok.1 hok.2.1 hok.2.2 hn (hlen b)
  | val b i=>exact value_call hM hbase hI hR hok hn (hl i)
  | last b i=>exact last_call hM hbase hI hR hok hn (hl i)
theorem lenB_set (bs:List Kb) (b b':Nat) (x:Kb):lenB (bs.set b x) b'=if b=b'∧b < bs.length then x.l.length else lenB bs b':=by
  unfold lenB blk;rw [List.getD_eq_getElem?_getD,List.getD_eq_getElem?_getD,List.getElem?_set];by_cases e:b=b'
  · subst e;by_cases h:b < bs.length
    · rw [if_pos rfl,if_pos h,if_pos ⟨rfl,h⟩];rfl
    · rw [if_pos rfl,if_neg h,if_neg (fun c=>h c.2),List.getElem?_eq_none (by omega)]
  · rw [if_neg e,if_neg (fun c=>e c.1)]
theorem stp_small (row:List Rf) (x:Stp) (s:Gs) (d:Nat) (h1:s.bs.length≤d+1) (h2:∀ b,lenB s.bs b≤d):(stp row x s).2.bs.length≤d+1+1∧∀ b,lenB (stp row x s).2.bs b≤d+1:=by
  have hsame:s.bs.length≤d+1+1∧∀ b,lenB s.bs b≤d+1:=⟨by omega,fun b=>by have:=h2 b;omega⟩
  have hval:∀ (f:Rf) (b:Nat),(valS f b s).2.bs.length≤d+1+1∧∀ b',lenB (valS f b s).2.bs b'≤d+1:=by
    intro f b;unfold valS;split
    · exact hsame
    split
    · refine ⟨by simp only [List.length_append,List.length_singleton];omega,fun b'=>?_⟩
      unfold lenB blk;rw [List.getD_eq_getElem?_getD];by_cases hb:b' < s.bs.length
      · rw [List.getElem?_append_left hb];have:=h2 b';unfold lenB blk at this;rw [List.getD_eq_getElem?_getD] at this;omega
      · rw [List.getElem?_append_right (by omega)];by_cases h0:b' - s.bs.length=0
        · rw [h0];simp
        · rw [List.getElem?_eq_none (by simp;omega)];simp
    split
    · exact hsame
    split
    · exact hsame
    split
    · exact hsame
    split
    · exact hsame
    · exact hsame
  cases x with
  | put b x =>
    refine ⟨by show (app s.bs b [x]).length≤_;rw [app_len];omega,fun b'=>?_⟩
    show lenB (app s.bs b [x]) b'≤_
    unfold app;rw [lenB_set];split
    · simp only [List.length_append,List.length_singleton]
      have:=h2 b;unfold lenB at this;omega
    · have:=h2 b';omega
  | leap b op k=>exact hsame
  | land b k =>
    refine ⟨by show (landB s.bs b _).length≤_;rw [land_len];omega,fun b'=>?_⟩
    show lenB (landB s.bs b _) b'≤_
    unfold landB;rw [lenB_set];split
    · simp only [List.length_set]
      have:=h2 b;unfold lenB at this;omega
    · have:=h2 b';omega
  | val b i=>exact hval _ b
  | last b i =>
    show (lastS (rfAt row i) b i s).2.bs.length≤_∧∀ b',lenB (lastS (rfAt row i) b i s).2.bs b'≤_
    unfold lastS;split
    · exact hsame
    split
    · exact hsame
    split
    · exact hsame
    split
    · exact hsame
    · exact hsame
def mark (D:Nat):Deferred:={ target:=.collected D,args:=#[] }
structure Marks (base:Nat) (w:World) (Ds:List Nat):Prop where
  nd:Ds.Nodup
  low:∀ D∈Ds,base≤D
  at_:∀ D∈Ds,w.heap[D]? = some (.deferred (some []))
def Cel (w:World) (S:List Nat):Prop:=∀ b∈S,b < w.heap.size→∃ c t z,w.heap[b]? = some (.cells c t z)
theorem Marks.far {base:Nat} {w w':World} {Ds S:List Nat} (h:Marks base w Ds) (f:MM.Far S w w') (hS:Cel w S):Marks base w' Ds:=by
  refine ⟨h.nd,h.low,fun D hD=>?_⟩
  have h1:=h.at_ D hD;have hl:=(Array.getElem?_eq_some_iff.1 h1).1;refine (f.block D hl (fun hm=>?_)).trans h1
  obtain ⟨c,t,z,e⟩:=hS D hm hl;rw [h1] at e;cases e
theorem Cel.row {w:World} {b:Nat} {t:TypeId} {l:List Value} (h:MM.Row w b t l):∃ c t z,w.heap[b]? = some (.cells c t z):=⟨_,_,_,h⟩
theorem Cel.own {w:World} {base size n:Nat} {t:TypeId} {v:Value} {xs:List Value} (h:w.ownsRow base t size v n xs) {b:Nat} (hb:v.ownBlock=some b):∃ c t z,w.heap[b]? = some (.cells c t z):=by
  rcases h.2 with ⟨rfl,_⟩ | ⟨g,cap,cur,rfl,_,hg,_⟩
  · simp [Value.ownBlock] at hb
  · have:g=b:=by simpa [Value.ownBlock] using hb
    subst this;exact ⟨_,_,_,hg⟩
theorem Mg.cel {base:Nat} {w:World} {q:Nat} {fv bv:Value} {ks:List Value} {ad:List Nat} {s:Gs} (h:Mg base w q fv bv ks ad s):Cel w (Zof q bv ks ad):=by
  intro b hb hl
  rcases mem_Z.1 hb with rfl | hb | ⟨k,hk,hb⟩ | hb
  · exact Cel.row h.head
  · exact Cel.own h.main hb
  · obtain ⟨i,hi⟩:=List.getElem?_of_mem hk;have hl:i < s.bs.length:=by rw [← h.klen];exact (List.getElem?_eq_some_iff.1 hi).1
    exact Cel.own (h.kid i k _ hi (List.getElem?_eq_getElem hl)) hb
  · obtain ⟨i,hi⟩:=List.getElem?_of_mem hb;have hl:i < s.bx.length:=by rw [← h.alen];exact (List.getElem?_eq_some_iff.1 hi).1
    exact Cel.row (h.box i b _ hi (List.getElem?_eq_getElem hl))
theorem leaves_marks {F:Fence} {n:Nat} {fn:Func} {tmps:Array Value} {R:Ending→World→Prop} {v:Value} (hr:∀ w,(results fn tmps).run Tryz.prog w = .ok v w):∀ (Ds:List Nat) (w:World),Ds.Nodup→(∀ D∈Ds,w.heap[D]? = some (.deferred (some [])))→(∀ w',MM.Far Ds w w'→R (.returned v) w') →
    LeavesInM F n Tryz.prog fn tmps R (Ds.map mark) .returning w:=by
  intro Ds;induction Ds with
  | nil=>intro w _ _ hR;exact ⟨v,hr w,hR w (MM.Far.refl _ _)⟩
  | cons D Ds ih =>
    intro w hnd hat hR;rw [List.nodup_cons] at hnd;have h0:=hat D (List.mem_cons_self ..);have hl:=(Array.getElem?_eq_some_iff.1 h0).1;have hF:MM.Far [D] w (w.putObj D (.deferred none)):=⟨rfl,rfl,rfl,by show w.heap.size≤(w.heap.setIfInBounds D _).size;rw [Array.size_setIfInBounds];exact Nat.le_refl _,fun b hb hn=>World.putObj_heap_other (fun e=>hn (by rw [e];exact List.mem_cons_self ..))⟩
    refine ⟨by simp,.inl ⟨D,w.putObj D (.deferred none),rfl,run_takeDeferred h0,?_⟩⟩
    refine ih _ hnd.2 (fun D' hD'=>?_) (fun w' f=>hR w' ((hF.mono (fun b hb _=>by rw [List.mem_singleton] at hb;rw [hb];exact List.mem_cons_self ..)).trans f (fun b hb _=>List.mem_cons_of_mem _ hb)))
    have h1:=hat D' (List.mem_cons_of_mem _ hD');exact (hF.block D' (Array.getElem?_eq_some_iff.1 h1).1 (fun hm=>by rw [List.mem_singleton] at hm;subst hm;exact hnd.1 hD')).trans h1
theorem wpListIn_append {F:Fence} {n:Nat} {P:Program} (w:World) {ops:Array Oper} {rest:List Oper} {o:Oper} {a:Act} {Q:Exit→Act→World→Prop}
    (hg:o.guard=none) (s x:Operand) (t:TypeId) (hop:o.op=Op.call { callee:=Callee.builtin Builtin.append,args:=#[s,x],argTypes:=#[t,t] })
    (base:Nat) (e:TypeId) (z:Value) (size bytes:Nat) (h1:P.underlying t=some (.slice e)) (hinfo:(P.info? e).map (fun i=>(i.zero,i.size,i.bytes))=some (some z,size,bytes)) (h6:z.cells.size=size) (h7:0 < size)
    (v:Value) (k:Nat) (xs:List Value) (hs:a.eval s=v) (hown:w.ownsRow base e size v k xs) (ad:Addr) (m c:Nat) (news:List Value) (hx:a.eval x = .slice (some ad) m c) (hn:news.length=m*size)
    (hc:∀ j u,news[j]? = some u→w.cell? (ad.add j)=some u) (h1c:∀ u∈news,u.oneCell'=true) (b1:k+m≤maxLen) (b2:(k+m)*bytes≤140737488355328) (b3:base≤w.heap.size)
    (hK:∀ v' w',w'.ownsRow base e size v' (k+m) (xs++news)→w.grownBy w' v.ownBlock→(v'.ownBlock=v.ownBlock∨v'.ownBlock=some w.heap.size)→wpListIn F n P ops Q rest (a.put o.dst v') w') :
    wpListIn F n P ops Q (o::rest) a w:=by
  obtain ⟨i,hi,hz,hsize,hby⟩:=info_parts hinfo;refine wpListIn_plain hg fun K hK'=>?_
  obtain ⟨v',w',hrun,r1,r2,_,r3⟩:=run_append_own_at (P:=P) w base t o.type e i z size bytes h1 hi hz hsize hby h6 h7 v k xs hown ad m c news hn hc h1c b1 b2 b3;unfold Oper.wpIn;refine ⟨?_,?_⟩
  · simp [Oper.about,hop,resolve,Target.leads,Sem.run_pure]
  · rw [Oper.semAt_plain F _ _ (by rw [hop];intro c hc';cases hc')];simp [execOp,hop,resolve,invoke,builtin,hs,hx,hrun,Result.andThen]
    exact hK' _ _ (hK v' w' r1 r2 r3)
def WaI (w:World) (base B:Nat) (v0:Value) (n0:Nat) (vs0:List Value) (pre:List (Int × Fa)) (W:World):Prop :=
  ∃ v,MM.Row W B 101 [v]∧W.ownsRow base 141 1 v (n0+pre.length) (vs0++pre.map fun x=>fvV x.2)∧MM.Far (B::v0.ownBlock.toList) w W∧(v.ownBlock=v0.ownBlock∨∃ g,v.ownBlock=some g∧w.heap.size≤g)
theorem wa_own (w:World) (base B:Nat) (v0:Value) (n0:Nat) (vs0:List Value):OwnFrom w.heap.size (WaI w base B v0 n0 vs0):=by
  rintro pre X Y row ⟨v,h1,h2,h3,h4⟩ hg hr;have hF:MM.Far row.toList X Y:=MM.Far.of_grown (S:=row.toList) hg (fun b hb _=>by rw [hb];simp);have hne:∀ b∈row.toList,w.heap.size≤b∧∃ o:Obj,X.heap[b]? = some o∧o.isCells=false:=fun b hb=>hr b (by simpa using hb)
  have hcel:∀ b,(∃ c t z,X.heap[b]? = some (.cells c t z))→b∉row.toList:=fun b ⟨c,t,z,e⟩ hm=>by
    obtain ⟨_,o,ho,hc⟩:=hne b hm;rw [e] at ho;injection ho with ho;subst ho;cases hc
  refine ⟨v,h1.far hF (hcel _ (Cel.row h1)),MM.own_far h2 hF (fun b hb=>hcel b (Cel.own h2 hb)),h3.trans hF (fun b hb hl=>?_),h4⟩
  have:=(hne b hb).1;omega
theorem keepsFrom_far {B:Nat} {W W':World} {S:List Nat} (f:MM.Far S W W') (hS:Cel W S):KeepsFrom B W W':=by
  refine ⟨f.size,fun k o _ hk ho=>?_⟩
  have hl:=(Array.getElem?_eq_some_iff.1 hk).1;refine (f.block k hl (fun hm=>?_)).trans hk
  obtain ⟨c,t,z,e⟩:=hS k hm hl;rw [hk] at e;injection e with e;subst e;cases ho
theorem keepB_far {W W':World} {S L:List Nat} (f:MM.Far S W W') (hL:∀ b∈L,b < W.heap.size) (hS:∀ b∈L,b∉S):KeepB L W W':=fun b hb=>f.block b (hL b hb) (hS b hb)
end GW
end Go.Proofs.YtehgmmbdlnginaaGreatDoor
