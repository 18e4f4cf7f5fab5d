/-
  Several texts in one: ReadLaws6,ScoDx.
-/
import Derived.Test.YtehgmmbdlnginaaGreatDoorQReadMays
import Derived.Test.YtehgmmbdlnginaaGreatDoorQExpDta
import Derived.ChangeArms
import Derived.Deep.DeepCutAuto
namespace Go.Proofs.YtehgmmbdlnginaaGreatDoor
open Go.RowKit
set_option linter.unusedVariables false
namespace RW6
open LX RX RM6
end RW6
end Go.Proofs.YtehgmmbdlnginaaGreatDoor
namespace Go.Proofs.YtehgmmbdlnginaaGreatDoor
open Go.RowKit
set_option linter.unusedVariables false
namespace RW6
open LX RX RM6
set_option maxHeartbeats 2000000 in
set_option maxRecDepth 20000 in
theorem right_any (kd at_ n:Int) (s:ByteArray) (LA:Option Addr) (len c:Nat) (hl:len≤100000) (w:World) :
    Calls Tryz.prog 55 #[.agg #[.int .u8 kd,.int .i64 at_,.int .i64 n,.string s,.slice LA len c]] w fun e w'=>e = .returned (.bool (okF kd at_ n s len))∧MM.Far [] w w':=by
  by_cases h0:at_ < 0
  · have HE:=Lib.hid (show okF kd at_ n s len=false by unfold okF;rw [if_pos h0]);rw [HE.out];clear HE;go_enter Tryz.func55,Tryz.ntmps55
    go_wp2;go_ret
    exact ⟨rfl,(MM.Far.refl [] w).alloc _⟩
  · obtain ⟨b,hb⟩:∃ b,okF kd at_ n s len=b:=⟨_,rfl⟩
    rw [hb];have H0:=Lib.hid h0;have HL:=Lib.hid hl
    rcases (show (kd=1∨kd=2∨kd=3∨kd=4∨(kd≠1∧kd≠2∧kd≠3∧kd≠4)) by omega) with rfl | rfl | rfl | rfl | ⟨k1,k2,k3,k4⟩
    case' inr.inr.inr.inr =>
      have d1:(kd == 1)=false:=by rw [beq_eq_false_iff_ne];exact k1
      have d2:(kd == 2)=false:=by rw [beq_eq_false_iff_ne];exact k2
      have d3:(kd == 3)=false:=by rw [beq_eq_false_iff_ne];exact k3
      have d4:(kd == 4)=false:=by rw [beq_eq_false_iff_ne];exact k4
      have d5:(kd != 3)=true:=by rw [bne_iff_ne];exact k3
      have d6:(kd != 4)=true:=by rw [bne_iff_ne];exact k4
    all_goals
      rcases (show (s.size=0∨s.size≠0) by omega) with hs | hs
      case' inl =>
        have HS:=Lib.hid hs;obtain rfl:=size_zero hs;clear hs
      case' inr =>
        have HS:=Lib.hid hs;have e1:=toList_ne hs;have e2:(s.toList == [])=false:=by rw [beq_eq_false_iff_ne];exact e1
        have e6:(s.toList != [])=true:=by rw [bne_iff_ne];exact e1
        clear hs
      all_goals
        rcases (show (len=0∨len≠0) by omega) with hn | hn
        case' inl =>
          have HN:=Lib.hid hn;subst hn
        case' inr =>
          have HN:=Lib.hid hn;have e3:decide ((0:Int) < (len:Int))=true:=by rw [decide_eq_true_iff];omega
          have e7:(0:Int) < (len:Int):=by omega
          have e8:0 < len:=by omega
          clear hn
        all_goals
          rcases (show (n=0∨n=1∨(n≠0∧n≠1)) by omega) with rfl | rfl | ⟨m1,m2⟩
          case' inr.inr =>
            have e4:(n == 0)=false:=by rw [beq_eq_false_iff_ne];exact m1
            have e5:(n == 1)=false:=by rw [beq_eq_false_iff_ne];exact m2
          all_goals
            have HE:=Lib.hid hb;clear hb;go_enter Tryz.func55,Tryz.ntmps55
            go_wp2;go_ret
            refine ⟨?_,(MM.Far.refl [] w).alloc _⟩
            rw [← HE.out];have g0:=H0.out;have gs:=HS.out;have gn:=HN.out;simp [okF, *]
end RW6
end Go.Proofs.YtehgmmbdlnginaaGreatDoor
namespace Go.Proofs.YtehgmmbdlnginaaGreatDoor
open Go.RowKit Go.ChangeShapes Go.WideShapes Go.Deep
namespace RW6
structure Na where
  k:Int
  at_:Int
  n:Int
  s:ByteArray
  A:Option Addr
  l:Nat
  c:Nat
  zs:List Int
def Na.cells (a:Na):List Value:=[.int .u8 a.k,.int .i64 a.at_,.int .i64 a.n,.string a.s,.slice a.A a.l a.c]
structure Na.Ok (w:World) (a:Na):Prop where
  hk:(Lit.int .u8 a.k).wf=true
  hn:(Lit.int .i64 a.at_).wf=true
  hi:(Lit.int .i64 a.n).wf=true
  hs:a.s.size≤maxLen
  hz:MR.Ints .i64 w a.A a.l a.c a.zs
structure Nas (w:World) (a:Option Addr) (len cap:Nat) (tl:List Na):Prop where
  len_:tl.length=len
  le:len≤cap
  max:cap≤maxLen
  nil:a=none→cap=0
  elems:∀ (i:Nat) (t:Na),tl[i]? = some t→∃ b off,a=some ⟨b,off,none⟩∧b < w.heap.size∧(∀ (j:Nat) (u:Value),t.cells[j]? = some u→w.cell? ⟨b,off+i*5+j,none⟩=some u)∧t.Ok w
section
variable {H:Type} {enc:TypeId × Value→H} {w:World} {fuel:Nat}
end
end RW6
end Go.Proofs.YtehgmmbdlnginaaGreatDoor
namespace Go.Proofs.YtehgmmbdlnginaaGreatDoor
open Go.RowKit
set_option linter.unusedVariables false
namespace RW6
open LX RX RM6
set_option maxHeartbeats 4000000 in
set_option maxRecDepth 20000 in
theorem dmay_any (ns:List Ni) (n:Nat) (hn:ns.length=n) (hn2:n≤100000) (hl:∀ x∈ns,x.l.length≤100000) (A:Option Addr) (c:Nat) (w:World) (hN:NiRow w [] A ns) :
    Calls Tryz.prog 29 #[.slice A n c] w fun e w'=>e = .returned (.bool (may ns))∧MM.Far [] w w':=by
  obtain ⟨R,hR⟩:∃ R,may ns=R:=⟨_,rfl⟩
  rw [hR];unfold may at hR;have HR:=Lib.hid hR;have HN:=Lib.hid hn;have HL:=Lib.hid hl;have HNi:=Lib.hid hN;clear hR hn hl hN;go_enter Tryz.func29,Tryz.ntmps29
  have hmk:=run_make_row' (P:=Tryz.prog) 94 4 (.bool false) 1 bools_slice bool_info rfl .i64 .i64 n (by omega) (by omega);rw [made_list] at hmk;go_wp2;clear hmk;have HI0:Hid (MayI w w.heap.size ns R 0 (w.alloc (.cells (List.replicate n (.bool false)).toArray 4))):=Lib.hid
    ⟨List.replicate n false,by rw [bools_rep];exact MM.Row.new w 4 (List.replicate n (.bool false)),(MM.Far.refl [] w).alloc _,by rw [List.length_replicate,HN.out],by rw [List.drop_zero,← HR.out,HN.out]⟩
  have HNb:Hid (NiRow (w.alloc (.cells (List.replicate n (.bool false)).toArray 4)) [w.heap.size] A ns):=Lib.hid (HNi.out.new ((MM.Far.refl [] w).alloc _) _ (Nat.le_refl _));obtain ⟨tb,htb⟩:∃ tb,w.heap.size=tb:=⟨_,rfl⟩
  rw [htb] at HI0 HNb;rw [htb];have HTB:=Lib.hid htb;clear htb;have HF0:Hid (MM.Far [tb] (w.alloc (.cells (List.replicate n (.bool false)).toArray 4)) (w.alloc (.cells (List.replicate n (.bool false)).toArray 4))):=Lib.hid (MM.Far.refl _ _)
  go_loopw [4] (fun s4 wr=>∃ k:Nat,k≤n∧s4 = .int .i64 k∧Hid (MayI w tb ns R k wr)∧Hid (MM.Far [tb] (w.alloc (.cells (List.replicate n (.bool false)).toArray 4)) wr)) (fun s4 _=>n - (intOf s4).toNat)
  case atStart=>exact ⟨0,by omega,rfl,HI0,HF0⟩
  case round =>
    obtain ⟨k,hk,rfl,hI,hF⟩:=hrel;obtain ⟨tk,hB,hFw,hlen,hG⟩:=hI.out;clear hI HI0 HF0;by_cases hlt:k < n
    · have hk2:k < ns.length:=by rw [HN.out];exact hlt
      obtain ⟨b,o,LA,lc,rfl,hbS,hb,c0,c1,c2,c3,c4,hL⟩:=(HNb.out.far hF.out) k hk2;rw [List.drop_eq_getElem_cons hk2] at hG;have hml:=HL.out _ (List.getElem_mem hk2);generalize ns[k]=x at *;obtain ⟨kd,at_,nn,s,l⟩:=x;simp only at c0 c1 c2 c3 c4 hL hml
      unfold mayG at hG;simp only at hG
      obtain ⟨m,hm⟩:∃ m,l.length=m:=⟨_,rfl⟩
      rw [hm] at c4 hml hG;have HM:=Lib.hid hm;obtain ⟨ok,hok⟩:∃ ok,okF kd at_ nn s m=ok:=⟨_,rfl⟩
      rw [hok] at hG;have HC:=Lib.hid (right_any kd at_ nn s LA m lc hml);rw [hok] at HC;have HB:=Lib.hid hB;have HFw:=Lib.hid hFw;have HFt:=Lib.hid hF.out;have HIR:=Lib.hid hL;have HLEN:=Lib.hid hlen;have HG:=Lib.hid hG;have HBS:=Lib.hid hbS;have HBL:=Lib.hid hb;have HC4:=Lib.hid c4;clear hk2 hG hok hB hFw hlen hL hF hm hbS hb;cases ok with
      | false =>
        have HG2:Hid (R=false):=Lib.hid (by have:=HG.out;simpa using this.symm);clear HG
        go_wp2_with (first | (go_at_call 55;(with_reducible refine (HC.out _).mono ?_);rintro e w5 ⟨rfl,hF5⟩;have HFw5:=Lib.hid (HFw.out.trans hF5 (by simp));clear hF5))
        go_ret
        exact ⟨by rw [HG2.out];rfl,HFw5.out⟩
      | true =>
        obtain ⟨T,hT⟩:∃ T,takeL k l tk=T:=⟨_,rfl⟩
        have HT:=Lib.hid hT;have hG2:=HG.out;rw [if_neg (by simp),hT] at hG2;have HG2:=Lib.hid hG2;clear HG hT hG2
        go_wp2_with (first | (go_at_call 55;(with_reducible refine (HC.out _).mono ?_);rintro e w5 ⟨rfl,hF5⟩;have HFw5:=Lib.hid (HFw.out.trans hF5 (by simp));have HFt5:=Lib.hid (HFt.out.trans hF5 (by simp));have HC5:=Lib.hid (far_cell hF5 HC4.out);have HIR5:=Lib.hid (HIR.out.far (hF5.mono (S':=[tb]) (by simp)));have HTI0:Hid (TakeI w5 tb k l tk T 0 w5):=Lib.hid ⟨tk,HB.out.far hF5 (by simp),MM.Far.refl _ _,rfl,by rw [List.drop_zero];exact HT.out⟩;clear hF5))
        go_loopw [6] (fun s6 wx=>∃ j:Nat,j≤m∧s6 = .int .i64 j∧Hid (TakeI w5 tb k l tk T j wx)) (fun s6 _=>m - (intOf s6).toNat)
        case atStart=>exact ⟨0,by omega,rfl,HTI0⟩
        case round =>
          obtain ⟨j,hj,rfl,hTI⟩:=hrel;obtain ⟨tj,hBj,hFj,hlj,hRj⟩:=hTI.out;clear hTI HTI0;have c5:=far_cell_at hFj HBS.out HC5.out;have HFwx:=Lib.hid (far_dtS HFw5.out hFj (.inr rfl) (fun h=>by have:=HTB.out;omega));have HFtx:=Lib.hid (far_dtS HFt5.out hFj (.inr rfl) (fun _=>by simp));by_cases hlt2:j < m
          · have hj2:j < l.length:=by rw [HM.out];exact hlt2
            obtain ⟨b2,o2,hLA,hbS2,hb2,hc⟩:=(HIR5.out.far hFj) j hj2;subst hLA;rw [List.drop_eq_getElem_cons hj2] at hRj;generalize l[j]=p at *;unfold takeL at hRj;have HFj:=Lib.hid hFj;have HBj:=Lib.hid hBj;have HLj:=Lib.hid hlj;clear hFj hBj hlj hj2 hbS2 hb2;by_cases h1:p < 0
            · rw [if_pos (.inl h1)] at hRj;subst hRj;have HG3:Hid (R=false):=Lib.hid (show false=R from HG2.out).symm;have d1:decide (p < 0)=true:=by rw [decide_eq_true_iff];exact h1
              clear HG2;go_wp2;go_ret
              exact ⟨by rw [HG3.out];rfl,HFwx.out⟩
            · by_cases h2:(k:Int)≤p
              · rw [if_pos (.inr h2)] at hRj;subst hRj;have HG3:Hid (R=false):=Lib.hid (show false=R from HG2.out).symm;have d1:decide (p < 0)=false:=by rw [decide_eq_false_iff_not];exact h1
                have d2:decide ((k:Int)≤p)=true:=by rw [decide_eq_true_iff];exact h2
                clear HG2;go_wp2;go_ret
                exact ⟨by rw [HG3.out];rfl,HFwx.out⟩
              · rw [if_neg (by omega)] at hRj;obtain ⟨q,rfl⟩:∃ q:Nat,p=(q:Int):=⟨p.toNat,by omega⟩
                have hq:q < tj.length:=by rw [HLj.out,HLEN.out,HN.out];omega
                have hqi:q < k:=by omega
                rw [Int.toNat_natCast] at hRj;have hgd:tj.getD q false=tj[q]:=by rw [List.getD_eq_getElem?_getD,List.getElem?_eq_getElem hq];rfl
                rw [hgd] at hRj;have hcell:=HBj.out.at (bools_at hq);have hfz:=HBj.out.frozen q;have g1:(q:Int) < (k:Int):=by omega
                have g2:(q:Int) < (n:Int):=by omega
                obtain ⟨bt,hbt⟩:∃ bt,tj[q]=bt:=⟨_,rfl⟩
                rw [hbt] at hRj hcell;clear hgd hbt h1 h2;cases bt with
                | true =>
                  rw [if_pos rfl] at hRj;subst hRj;have HG3:Hid (R=false):=Lib.hid (show false=R from HG2.out).symm;clear HG2;go_wp2;go_ret
                  exact ⟨by rw [HG3.out];rfl,HFwx.out⟩
                | false =>
                  rw [if_neg (by simp)] at hRj;have HRj:=Lib.hid hRj;rename_i wx;clear hRj;go_wp2;go_roundw
                  case rel=>exact ⟨j+1,by omega,by go_num,Lib.hid ⟨tj.set q true,by rw [← bools_set];exact HBj.out.put q _,HFj.out.trans (one_far _ tb q _) (by simp),by rw [List.length_set];exact HLj.out,HRj.out⟩⟩
                  case measure=>simp [intOf];omega
          · obtain rfl:j=m:=by omega
            rw [List.drop_of_length_le (by rw [HM.out];exact Nat.le_refl _)] at hRj;replace hRj:some tj=T:=hRj;subst hRj;have HG3:Hid (mayG (ns.drop (k+1)) (k+1) tj=R):=Lib.hid HG2.out;have HBj:=Lib.hid hBj;have HLj:=Lib.hid hlj;clear HG2 hFj hBj hlj;go_wp2;go_roundw
            case rel=>exact ⟨k+1,by omega,by go_num,Lib.hid ⟨tj,HBj.out,HFwx.out,by rw [HLj.out];exact HLEN.out,HG3.out⟩,HFtx⟩
            case measure=>simp [intOf];omega
    · obtain rfl:k=n:=by omega
      rw [List.drop_of_length_le (by rw [HN.out];exact Nat.le_refl _)] at hG;have HG2:Hid (true=R):=Lib.hid hG;have HFw:=Lib.hid hFw;clear hG hB hFw hlen hF;go_wp2;go_ret
      exact ⟨by rw [← HG2.out];rfl,HFw.out⟩
end RW6
end Go.Proofs.YtehgmmbdlnginaaGreatDoor
namespace Go.Proofs.YtehgmmbdlnginaaGreatDoor
open Go.RowKit
set_option linter.unusedVariables false
namespace RW6
open LX RX RM6
def Na.ni (t:Na):Ni:=⟨t.k,t.at_,t.n,t.s,t.zs⟩
theorem Nas.far {w w':World} {a:Option Addr} {len cap:Nat} {tl:List Na} (h:Nas w a len cap tl) (f:MM.Far [] w w'):Nas w' a len cap tl :=
  ⟨h.len_,h.le,h.max,h.nil,fun i t ht=>by
    obtain ⟨b,off,e,hb,hc,ho⟩:=h.elems i t ht;exact ⟨b,off,e,Nat.lt_of_lt_of_le hb f.size,fun j u hu=>(f.cell (p:=⟨b,off+i*5+j,none⟩) hb (by simp)).trans (hc j u hu),ho.hk,ho.hn,ho.hi,ho.hs,ho.hz.len_,ho.hz.le,ho.hz.max,ho.hz.nil,ho.hz.src.far f (by simp),ho.hz.wf⟩⟩
end RW6
end Go.Proofs.YtehgmmbdlnginaaGreatDoor
namespace Go.Proofs.YtehgmmbdlnginaaGreatDoor
open Go.RowKit
set_option linter.unusedVariables false
namespace SM
open LX SX RW6 EX EW
def FmS (w:World) (A:Option Addr) (fs:List Fm):Prop :=
  ∀ (k:Nat) (h:k < fs.length),∃ b o PA pc LA lc,A=some ⟨b,o,none⟩∧b < w.heap.size∧w.cell? ⟨b,o+k*8,none⟩=some (.int .u8 fs[k].kind)∧w.cell? ⟨b,o+k*8+1,none⟩=some (.int .i64 fs[k].at_)∧w.cell? ⟨b,o+k*8+2,none⟩=some (.int .i64 fs[k].n) ∧
    w.cell? ⟨b,o+k*8+3,none⟩=some (.int .i64 0)∧w.cell? ⟨b,o+k*8+4,none⟩=some (.string fs[k].s)∧w.cell? ⟨b,o+k*8+5,none⟩=some (.slice PA fs[k].p.length pc)∧w.cell? ⟨b,o+k*8+6,none⟩=some (.int .u64 0) ∧
    w.cell? ⟨b,o+k*8+7,none⟩=some (.slice LA fs[k].l.length lc)∧Sl w [] (.slice PA fs[k].p.length pc) (strs fs[k].p)∧Sl w [] (.slice LA fs[k].l.length lc) (ints fs[k].l)
def DxpS (w0:World):Except Int (List Fm × List Nat)→Ending→World→Prop
  | .error a,e,w=>e = .returned (.tuple #[.slice none 0 0,.slice none 0 0,.int .i64 a,.int .i64 80])∧MM.Far [] w0 w
  | .ok r,e,w=>∃ A c T d,e = .returned (.tuple #[.slice A r.1.length c,.slice T r.2.length d,.int .i64 0,.int .i64 0])∧FmS w A r.1∧IntRow w T r.2∧MM.Far [] w0 w
theorem FmS.far {w w':World} {A:Option Addr} {fs:List Fm} (h:FmS w A fs) (f:MM.Far [] w w'):FmS w' A fs:=by
  intro k hk;obtain ⟨b,o,PA,pc,LA,lc,e,hb,c0,c1,c2,c3,c4,c5,c6,c7,hP,hI⟩:=h k hk;have g (x:Nat):w'.cell? ⟨b,x,none⟩=w.cell? ⟨b,x,none⟩:=f.cell (p:=⟨b,x,none⟩) hb (by simp);exact ⟨b,o,PA,pc,LA,lc,e,Nat.lt_of_lt_of_le hb f.size,(g _).trans c0,(g _).trans c1,(g _).trans c2,(g _).trans c3,(g _).trans c4,(g _).trans c5,(g _).trans c6,(g _).trans c7,hP.far f (by simp),hI.far f (by simp)⟩
end SM
namespace EW
open LX SX RW6 EX
open RX (Nd Rd)
open RM6 (Kin)
section
variable {w0 w w1:World} {E:List Nat} {q:Nat} {DA:Option Addr} {n c:Nat} {ns:List Nd} {dv fv:Value} {bad:Int} {rs:List (Fm × Value × Value)} {X:Except Int (List Fm)} {B:Nat}
theorem Rx.rowsS (h:Rx w0 w E q dv fv bad rs):∃ A c,fv = .slice A rs.length c∧SM.FmS w A (rs.map (·.1)):=by
  obtain ⟨A,c,rfl,k0,k1,k2,k3,hh⟩:=MO.form h.row;refine ⟨A,c,rfl,fun k hk=>?_⟩
  have hk2:k < rs.length:=by simpa using hk
  rcases hh with ⟨_,hz,_⟩ | ⟨g,rfl,_,hlt⟩
  · omega
  obtain ⟨hp,hl⟩:=h.rd rs[k] (List.getElem_mem hk2);obtain ⟨PA,pc,ep,_⟩:=hp.form;obtain ⟨LA,lc,el,_⟩:=hl.form;have c (j:Nat) (hj:j < 8) (u:Value) (hu:(fmL rs[k])[j]? = some u):w.cell? ⟨g,0+k*8+j,none⟩=some u:=by
    have:=@World.ownsRow.cells w _ _ _ _ _ _ h.row g rfl (k*8+j) u ((fmC_at rs k hk2 j hj).trans hu);rw [MM.head_add] at this;rw [Nat.zero_add];exact this
  have em:(rs.map (·.1))[k]=rs[k].1:=by simp
  rw [em];rw [strs_len] at ep;rw [ints_len] at el;rw [ep] at hp;rw [el] at hl;exact ⟨g,0,PA,pc,LA,lc,rfl,hlt,c 0 (by omega) _ rfl,c 1 (by omega) _ rfl,c 2 (by omega) _ rfl,c 3 (by omega) _ rfl,c 4 (by omega) _ rfl,(c 5 (by omega) _ rfl).trans (congrArg some ep),c 6 (by omega) _ rfl,(c 7 (by omega) _ rfl).trans (congrArg some el),hp.more (fun b hb=>by cases hb),hl.more (fun b hb=>by cases hb)⟩
set_option maxHeartbeats 4000000 in
set_option maxRecDepth 20000 in
theorem dexpandS_any {TA:Option Addr} {tn tc:Nat} {zs:List Int} (D:Dta w DA n ns) (hMay:Calls Tryz.prog 29 #[.slice DA n c] w fun e w'=>e = .returned (.bool true)∧MM.Far [] w w')
    (hT:Sl w [] (.slice TA tn tc) (zs.map num)) (hzl:zs.length=tn) (htn:tn≤100000) (hin:inRange n zs=true) (hW:sumT ns (zs.map Int.toNat)≤100000) (hf:∀ i∈zs.map Int.toNat,wt ns (.top i)≤16*ns.length) :
    Calls Tryz.prog 18 #[.slice DA n c,.slice TA tn tc] w (SM.DxpS w (EX.expand ns (zs.map Int.toNat))):=by
  have HT:=Lib.hid hT;have HZL:=Lib.hid hzl;have HD:=Lib.hid D;have HIN:=Lib.hid hin;have HW:=Lib.hid hW;have HFF:=Lib.hid hf;have HMAY:=Lib.hid hMay;obtain ⟨R,hR⟩:∃ R,EX.expand ns (zs.map Int.toNat)=R:=⟨_,rfl⟩
  rw [hR];have HR:=Lib.hid hR;clear hT hzl D hin hW hf hMay hR;unfold num at *;go_enter Tryz.func18,Tryz.ntmps18
  go_wp2_with (first
    | (go_at_call 29;(with_reducible refine HMAY.out.mono ?_);rintro e w1 ⟨rfl,hF1⟩;have HF1:=Lib.hid hF1;clear hF1))
  go_loopw [8] (fun s8 wr=>∃ k:Nat,k≤tn∧s8 = .int .i64 (k:Int)∧Hid (wr=w1)) (fun s8 _=>tn - (intOf s8).toNat)
  case atStart=>exact ⟨0,by omega,rfl,Lib.hid rfl⟩
  case round =>
    obtain ⟨k,hk,rfl,hH⟩:=hrel;have hwr:=hH.out;subst hwr;clear hH;by_cases hlt:k < tn
    · have hk2:k < zs.length:=by rw [HZL.out];exact hlt
      obtain ⟨A',c',e,hc1,hc2,hc3⟩:=HT.out.far HF1.out (by simp);injection e with e1 e2 e3;subst e1 e3;obtain ⟨g,o,rfl,hz,hg,cc⟩:=hc3 k (.int .i64 zs[k]) (by rw [List.getElem?_map,List.getElem?_eq_getElem hk2];rfl);have hzr:0≤zs[k]∧zs[k] < (n:Int):=of_decide_eq_true (List.all_eq_true.1 HIN.out zs[k] (List.getElem_mem hk2));generalize zs[k]=z at *;have hz1:decide (z < 0)=false:=by rw [decide_eq_false_iff_not];omega
      have hz2:¬ (n:Int)≤z:=by omega
      have hz3:decide ((n:Int)≤z)=false:=by rw [decide_eq_false_iff_not];exact hz2
      clear hk2 e2 hc1 hc2 hc3 hz hg hzr;go_wp2;go_roundw
      case rel=>exact ⟨k+1,by omega,by go_num,Lib.hid trivial⟩
      case measure=>simp [intOf];omega
    · obtain rfl:k=tn:=by omega
      obtain ⟨w1,rfl⟩:∃ w1,w1=wr:=⟨_,rfl⟩
      go_wp2;have HST:Hid (Stx w1 (w1.alloc (.cells #[.slice DA n c,.slice none 0 0,.int .i64 (-1)] 87)) [] w1.heap.size (.slice DA n c) (.slice none 0 0) (.ok []) 0):=Lib.hid ⟨[],-1,Rx.start w1 DA n c,Nat.le_refl _,rfl,rfl⟩;have HFC:=Lib.hid (fun N=>form_allD (q:=w1.heap.size) (c:=c) (HD.out.to HF1.out) N);have HW0:Hid (w1.heap.size≤(w1.alloc (.cells #[.slice DA n c,.slice none 0 0,.int .i64 (-1)] 87)).heap.size):=Lib.hid (by rw [sz_alloc];omega);generalize w1.alloc (.cells #[.slice DA n c,.slice none 0 0,.int .i64 (-1)] 87)=W at *;generalize hq:w1.heap.size=q at *;have HQ:=Lib.hid hq;have HW1:Hid (w1.heap.size≤W.heap.size):=Lib.hid (by rw [hq];exact HW0.out);clear hq;have H0:Hid (∃ st ks,runTops ns (16*ns.length) ((zs.map Int.toNat).drop 0) st ks=R∧Col w1 W W [] q (.slice DA n c) (.slice none 0 0) (.ok (st,ks)) (sumT ns ((zs.map Int.toNat).take 0)) (.slice none 0 0) 0):=Lib.hid ⟨[],[],HR.out,Col.start (X:=.ok []) (HST.out.mono (Nat.zero_le _))⟩;clear HST HR
      go_loopw [10,11] (fun s10 s11 wx=>∃ (j:Nat) (OA:Option Addr) (oc:Nat),j≤k∧s10 = .slice OA j oc∧s11 = .int .i64 (j:Int)∧Hid (∃ st ks,runTops ns (16*ns.length) ((zs.map Int.toNat).drop j) st ks=R∧Col w1 W wx [] q (.slice DA n c) (.slice none 0 0) (.ok (st,ks)) (sumT ns ((zs.map Int.toNat).take j)) (.slice OA j oc) j)) (fun _ s11 _=>k - (intOf s11).toNat)
      case atStart=>exact ⟨0,none,0,by omega,rfl,rfl,H0⟩
      case round =>
        obtain ⟨j,OA,oc,hj,rfl,rfl,hC0⟩:=hrel;obtain ⟨wo,rfl⟩:∃ wo,wo=wr:=⟨_,rfl⟩
        obtain ⟨st,ks0,hRun,hC⟩:=hC0.out;have HRun:=Lib.hid hRun;have HC:=Lib.hid hC;have hst0:=hC;obtain ⟨fv0,ks1,hks1,ho1,hS1,hF1',hY1⟩:=hst0;have hks:ks0=ks1:=hY1 st ks0 rfl;have HFq:=Lib.hid hS1.low.1;have HS1:=Lib.hid hS1;have HO1:=Lib.hid ho1;have HKS1:=Lib.hid hks;clear H0 hC0 hRun hC hY1 hks ho1 hks1 hF1';by_cases hlt2:j < k
        · have hj2:j < zs.length:=by rw [HZL.out];exact hlt2
          have hj3:j < (zs.map Int.toNat).length:=by rw [List.length_map];exact hj2
          obtain ⟨A',c',e,hc1,hc2,hc3⟩:=HT.out.far (HF1.out.trans HFq.out (by simp)) (by simp);injection e with e1 e2 e3;subst e1 e3;obtain ⟨g,o,rfl,hz,hg,cc⟩:=hc3 j (.int .i64 zs[j]) (by rw [List.getElem?_map,List.getElem?_eq_getElem hj2];rfl);have hzr:0≤zs[j]∧zs[j] < (n:Int):=of_decide_eq_true (List.all_eq_true.1 HIN.out zs[j] (List.getElem_mem hj2));obtain ⟨i,hi⟩:∃ i,zs[j].toNat=i:=⟨_,rfl⟩
          have hzi:zs[j]=(i:Int):=by omega
          have hget:(zs.map Int.toNat)[j]=i:=by rw [List.getElem_map,hi]
          have hwi:wt ns (.top i)≤16*ns.length:=HFF.out i (by rw [← hget];exact List.getElem_mem hj3);have hstk:=sumT_take (ns:=ns) hj3;have hsl:=sumT_le (ns:=ns) (zs.map Int.toNat) (j+1);rw [hget] at hstk;rw [hzi] at cc;have hrun:=HRun.out;rw [List.drop_eq_getElem_cons hj3,hget] at hrun;unfold runTops at hrun;rw [exq_run HD.out.ok hwi] at hrun;have HCL:=Lib.hid (HC.out.call (R:=exq ns (.top i)) (B':=sumT ns ((zs.map Int.toNat).take (j+1))) (f:=30) (args:=#[.pointer (some ⟨q,0,none⟩),.int .i64 ((i:Nat):Int),.bool true]) (fun fv1 hS=>by
            have h2:=HFC.out (16*T ns i) _ _ _ _ _ i true (by omega) (by omega) (by have:=HW.out;omega) hS;refine h2.mono fun e w1 hQ=>hQ.mono (by omega)))
          clear hj2 hj3 e2 hc1 hc2 hc3 hz hg hzr hi hzi hget hwi hstk hsl;cases hx:exq ns (.top i) st with
          | error a =>
            rw [hx] at hrun;have HRE:Hid (R = .error a):=Lib.hid hrun.symm;have HX:=Lib.hid hx;clear hrun hx
            go_wp2_with (first
              | (go_at_call 30;(with_reducible refine HCL.out.mono ?_);rintro e w4 ⟨fv2,ks,kk,he,hks,ho,hS,hF4,hsz,hY⟩;(replace he:e = .returned (.int .i64 ((kk:Nat):Int)):=he);subst he
                 have hS':Stx w1 w4 ((Value.slice OA j oc).ownBlock.toList++[]) q (.slice DA n c) fv2 (fst' (exq ns (.top i) st)) (sumT ns ((zs.map Int.toNat).take (j+1))):=hS;rw [HX.out] at hS';obtain ⟨rs,bad,h1,h2,h3,h4⟩:=hS';subst h3;have x2:=h1.head.at (i:=2) rfl;have h4b:(0:Int)≤bad:=h4;have HF5:=Lib.hid h1.far;clear hks ho hS hF4 hsz hY h1 h2 h4))
            go_quiet (fail)
            go_wp2;refine bodyPost_ret (v:=.tuple #[.slice none 0 0,.slice none 0 0,.int .i64 bad,.int .i64 80]) (by simp [results,Tryz.results18,go_sem]) rfl ?_
            rw [HRE.out];exact ⟨rfl,(HF1.out.trans HF5.out (by simp)).drewN _⟩
          | ok y =>
            obtain ⟨st',k'⟩:=y;rw [hx] at hrun;have HRE:=Lib.hid hrun;have HX:=Lib.hid hx;clear hrun hx
            go_wp2_with (first
              | (go_at_call 30;(with_reducible refine HCL.out.mono ?_);rintro e w4 ⟨fv2,ks,kk,he,hks,ho,hS,hF4,hsz,hY⟩;(replace he:e = .returned (.int .i64 ((kk:Nat):Int)):=he);subst he
                 have hS':Stx w1 w4 ((Value.slice OA j oc).ownBlock.toList++[]) q (.slice DA n c) fv2 (fst' (exq ns (.top i) st)) (sumT ns ((zs.map Int.toNat).take (j+1))):=hS;rw [HX.out] at hS';obtain ⟨rs,bad,h1,h2,h3,h4⟩:=hS';subst h3;have x2:=h1.head.at (i:=2) rfl;have HKS:=Lib.hid hks;have HOK2:=Lib.hid ho;have HS:=Lib.hid hS;have HF4:=Lib.hid hF4;have HSZ:=Lib.hid hsz;have HY:=Lib.hid hY;clear hks ho hS hF4 hsz hY h1 h2 h4)
              | (at_builtin;refine rplace_push (l:=ks) (n:=kk) rfl HOK2.out HSZ.out (by have:=HKS.out;omega) rfl (.tmp 60) (.tmp 62) rfl rfl rfl ?_;intro A3 c3 w5 hO3 hF3 hA3;have HN:=Lib.hid (Col.next HW1.out HS.out HF4.out HOK2.out HY.out hO3 hF3 hA3);clear hO3 hF3 hA3))
            go_roundw
            case rel =>
              have h:=HN.out;have e:(bnd (Except.ok (st,ks0)) fun y=>bnd (exq ns (.top i) y.1) fun z=>Except.ok (z.1,y.2++[z.2])) = .ok (st',ks0++[k']):=by
                show (bnd (exq ns (.top i) st) fun z=>Except.ok (z.1,ks0++[z.2]))=_
                rw [HX.out];rfl
              rw [HKS.out,e] at h;exact ⟨j+1,A3,c3,by omega,by rw [HKS.out],by go_num,Lib.hid ⟨st',ks0++[k'],HRE.out,h⟩⟩
            case measure=>simp [intOf];omega
        · obtain rfl:j=k:=by omega
          have hrun:=HRun.out;rw [List.drop_eq_nil_of_le (by rw [List.length_map,HZL.out];exact Nat.le_refl _)] at hrun;have HRE:Hid (.ok (st,ks0)=R):=Lib.hid hrun;obtain ⟨rs,bad,h1,h2,h3,h4⟩:=HS1.out;obtain ⟨FA,fc,rfl,hFM⟩:=h1.rowsS;have x1:=h1.head.at (i:=1) rfl;have hI:=own_ints HO1.out;obtain ⟨IA,ic,ei,-,-,-,hIR⟩:=hI;injection ei with e1 e2 e3;subst e1;have HFM:=Lib.hid hFM;have HIR:=Lib.hid hIR;have HRS:Hid (rs.map (·.1)=st):=Lib.hid h4;have HE2:Hid (j=ks1.length):=Lib.hid e2;clear hrun h1 h2 h3 h4 hFM hIR e2 e3 hS1;go_wp2;refine bodyPost_ret (v:=.tuple #[.slice FA rs.length fc,.slice OA j oc,.int .i64 0,.int .i64 0]) (by simp [results,Tryz.results18,go_sem]) rfl ?_
          rw [← HRE.out];refine ⟨FA,fc,OA,oc,?_,?_,?_,HF1.out.trans HFq.out (by simp)⟩
          · rw [← HRS.out,List.length_map,HKS1.out,← HE2.out]
          · rw [← HRS.out];exact HFM.out
          · rw [HKS1.out];exact HIR.out
end
theorem dcodeS_any {w0 w w1:World} {rv tv:Value} {rs:List (Nd × Value)} {s:ByteArray} {r:Rd} (hR:RX.read s = .ok r) (h:Done w0 w rv tv rs r.tops) (hrs:rs.map (·.1)=r.row) (hs:r.row.length≤6000) (f:MM.Far [] w w1) :
    Calls Tryz.prog 18 #[rv,tv] w1 (SM.DxpS w1 (EX.expand r.row r.tops)):=by
  obtain ⟨A,c,rfl,hN⟩:=done_rows h;have hlen:rs.length=r.row.length:=by rw [← hrs,List.length_map]
  rw [hrs] at hN;obtain ⟨TA,tc,htv,-⟩:=own_ints (h.kin.each (tv,r.tops) (List.mem_cons_self ..));have htv:tv = .slice TA r.tops.length tc:=htv;subst htv;have hT:Sl w [] (.slice TA r.tops.length tc) ((zI r.tops).map num):=by
    rw [zI_nums];exact Sl.own (h.kin.each (.slice TA r.tops.length tc,r.tops) (List.mem_cons_self ..)) (fun b _=>by simp)
  have hsz:=RX.read_sizes hR;have hl2:=hs;have hN1:=hN.far f;have hM:=dmay_any (r.row.map RX.toI) r.row.length (by rw [List.length_map]) (by omega) (fun x hx=>by
    obtain ⟨y,hy,rfl⟩:=List.mem_map.1 hx;have:=hsz.2.2 y hy;simp only [RX.toI,List.length_map];omega) A c w1 (NiRow.of_nd hN1.row)
  rw [RX.read_may hR] at hM;have hT2:=read_T hR;have hS:sumT r.row r.tops=16*(r.tops.map (T r.row)).sum:=by
    unfold sumT;induction r.tops with
    | nil=>rfl
    | cons a l ih=>rw [List.map_cons,List.sum_cons,List.map_cons,List.sum_cons,ih];omega
  have D:=dta_of hN1 rfl (read_ok_data hR) (RX.read_may hR) (fun x hx=>by have:=hsz.2.2 x hx;omega);have:=dexpandS_any (c:=c) D hM (hT.far f (by simp)) (zI_len _) (by omega) (inRange_of (read_tops_lt hR)) (by rw [zI_back];omega) (fun i hi=>by
    rw [zI_back] at hi;have h1:=EX.sum_mem (f:=T r.row) hi;rw [wt_T];omega)
  rw [zI_back,← hlen] at this;exact this
theorem dnilS_any (w:World):Calls Tryz.prog 18 #[.slice none 0 0,.slice none 0 0] w (SM.DxpS w (.ok ([],[]))):=by
  have hN:NdR w none []:=fun k hk=>by simp at hk
  have hM:=dmay_any [] 0 rfl (by omega) (fun x hx=>by cases hx) none 0 w (fun k hk=>by simp at hk);rw [show RX.may []=true from rfl] at hM;have D:Dta w none 0 []:=dta_of hN rfl ⟨(fun x hx=>absurd hx (by simp)),(fun x hx=>absurd hx (by simp)),(fun i hi=>absurd hi (by simp)),(fun i hi=>absurd hi (by simp)),(fun i hi=>absurd hi (by simp))⟩ rfl (fun x hx=>absurd hx (by simp));exact dexpandS_any D hM (Sl.nil _ _) (zs:=[]) rfl (by omega) rfl (by decide) (fun i hi=>by cases hi)
end EW
end Go.Proofs.YtehgmmbdlnginaaGreatDoor
