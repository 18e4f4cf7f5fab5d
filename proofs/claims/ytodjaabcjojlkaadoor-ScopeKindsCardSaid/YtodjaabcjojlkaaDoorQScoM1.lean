/-
  Several texts in one: ScoC1,ScoC3,ScoM1.
-/
import Derived.Test.YtodjaabcjojlkaaDoorQScoSt
import Derived.Test.YtodjaabcjojlkaaDoorQScoRow
import Derived.BigQuiet
import Derived.Deep.LoopGhost
import Derived.Deep.RegionLaw
import Derived.Deep.RegionHeld3
import Derived.Deep.DeepCutAuto
import Derived.Deep.QuietTactic
namespace Go.Proofs.YtodjaabcjojlkaaDoor
open Go.RowKit
set_option linter.unusedVariables false
namespace SM
open LX RW6 EX SC
open EW (Sl Bx ptr num strs)
open RX (Nd)
open RM6 (Kin)
theorem Sb.at5 {w0 w:World} {Y S:List Nat} {q g:Nat} {h:Hd} {own:ByteArray→Nat} {lev:Nat} {row:List Bd} {c:ByteArray→Nat} {N:List ByteArray} {bv im mv sv:Value} (s:Sb w0 w Y q g h own lev row c N bv im mv sv S):∃ A cp,bv = .slice A row.length cp∧row.length≤cp∧cp≤maxLen ∧
    ∀ (k:Nat) (hk:k < row.length),∃ b,A=some ⟨b,0,none⟩∧b < w.heap.size∧w.cell? ⟨b,k*4,none⟩=some (.string row[k].name)∧w.cell? ⟨b,k*4+1,none⟩=some (num row[k].lev)∧w.cell? ⟨b,k*4+2,none⟩=some (num row[k].pl)∧w.cell? ⟨b,k*4+3,none⟩=some (num row[k].hid):=by
  obtain ⟨A,cp,rfl,k0,k1,k2,k3,hh⟩:=MO.form s.bind;refine ⟨A,cp,rfl,k1,k2,fun k hk=>?_⟩
  rcases hh with ⟨_,hz,_⟩ | ⟨b,rfl,_,hlt⟩
  · omega
  have cl (j:Nat) (hj:j < 4) (u:Value) (hu:(bdL row[k])[j]? = some u):w.cell? ⟨b,k*4+j,none⟩=some u:=by
    have:=@World.ownsRow.cells w _ _ _ _ _ _ s.bind b rfl (k*4+j) u ((bdC_at row k hk j hj).trans hu);rw [MM.head_add] at this;exact this
  exact ⟨b,rfl,hlt,cl 0 (by omega) _ rfl,cl 1 (by omega) _ rfl,cl 2 (by omega) _ rfl,cl 3 (by omega) _ rfl⟩
theorem farC {w w':World} (f:MM.Far [] w w') {p:Addr} {v:Value} (h:w.cell? p=some v):w'.cell? p=some v:=(f.cell (MR.cell_lt h) (by simp)).trans h
def findV:Option (Nat × Nat)→Value
  | none=>.tuple #[num 0,num 0,.bool false]
  | some (a,n)=>.tuple #[num a,num n,.bool true]
section
variable {w0 w w1:World} {Y:List Nat} {q g:Nat} {h:Hd} {own:ByteArray→Nat} {R:Rws} {N:List ByteArray}
set_option maxHeartbeats 4000000 in
set_option maxRecDepth 20000 in
theorem find_any (s:Sc w0 w Y q g h own R N) (hR:∀ r∈R,r.Nodup) (hl:R.length≤1000000000000) (k:ByteArray):Calls Tryd.prog 84 #[.pointer (some ⟨q,4,none⟩),.string k] w fun e w'=>e = .returned (findV (wher R k))∧MM.Far [] w w':=by
  obtain ⟨bv,im,mv,sv,S,s⟩:=s;obtain ⟨A,cp,rfl,hc1,hc2,hat⟩:=s.at5;have c4:=s.head.at (i:=4) rfl;have c5:=s.head.at (i:=5) rfl;have c6:=s.head.at (i:=6) rfl;have hlook:=s.map.look k;have hwh:=wher_inn k R hR;have hle:=inn_le (bnd R) k;cases hw:wher R k with
  | none =>
    rw [hw] at hwh;have hwh:inn (bnd R) k=0:=hwh;rw [hwh] at hlook;clear hw hwh hle hat s;go_enter Tryd.func84,Tryd.ntmps84
    go_wp2;go_ret3
    exact ⟨rfl,MM.Far.refl _ _⟩
  | some y =>
    obtain ⟨a,n⟩:=y;rw [hw] at hwh;obtain ⟨ha,j,hd,h1,h2⟩:=hwh;have hj:=(List.getElem?_eq_some_iff.1 h2).1;have e:(bnd R)[j]=⟨k,R.length - 1 - a,n,hd⟩:=by
      have:=List.getElem?_eq_getElem hj;rw [h2] at this;exact (Option.some.inj this).symm
    obtain ⟨b,rfl,hb,d0,d1,d2,d3⟩:=hat j hj;rw [e] at d0 d1 d2 d3;rw [h1] at hlook;obtain ⟨m,hm⟩:∃ m,(bnd R).length=m:=⟨_,rfl⟩
    rw [hm] at hj c5 hc1;obtain ⟨L,hL⟩:∃ L,R.length=L:=⟨_,rfl⟩
    rw [hL] at c4 ha hl d0 d1 d2 d3;have hz:decide (((j+1:Nat):Int)=0)=false:=by simp;omega
    have hw1:((j+1:Nat):Int) - 1=(j:Int):=by omega
    have hi0:(0:Int)≤(j:Int):=by omega
    have hi1:(j:Int) < (m:Int):=by omega
    have hml:m≤maxLen:=by omega
    unfold maxLen at hml;have hw2:IntKind.i64.wrap ((L:Int) - 1 - ((L - 1 - a:Nat):Int))=(a:Int):=by rw [show (L:Int) - 1 - ((L - 1 - a:Nat):Int)=(a:Int) by omega];exact IntWalk.i64_in _ (by omega)
    have hw3:(L:Int) - 1 - ((L - 1 - a:Nat):Int)=(a:Int):=by omega
    have c4a:=farC ((MM.Far.refl [] w).alloc (.cells #[.string k,num ((L - 1 - a:Nat):Int),num n,num hd] 137)) c4;clear hw h2 hle hat s e h1 hR hm hL;show Calls _ _ _ _ fun e w'=>e = .returned (.tuple #[num a,num n,.bool true])∧MM.Far [] w w'
    unfold num at *;go_enter Tryd.func84,Tryd.ntmps84
    go_wp2;go_quiet (fail)
    go_wp2;go_ret3
    refine ⟨?_,?_⟩
    · simp
    · exact ((MM.Far.refl [] w).alloc _).drewN _
end
end SM
end Go.Proofs.YtodjaabcjojlkaaDoor
namespace Go.Proofs.YtodjaabcjojlkaaDoor
open Go.RowKit
set_option linter.unusedVariables false
namespace SM
open LX RW6 EX SC
open EW (Sl Bx ptr num strs)
open RX (Nd)
open RM6 (Kin)
def LvX (w0 w:World) (Y:List Nat) (q g:Nat) (h:Hd) (own:ByteArray→Nat) (lev:Nat) (row:List Bd) (N:List ByteArray) (im:Value) (wr:World):Prop :=
  ∃ Y1 bv mv sv S,MM.Far Y w wr∧Yto w Y Y1∧Sb w0 wr Y1 q g h own lev row (inn row) N bv im mv sv S
theorem inn_less {row:List Bd} (h:HidOk row) {k:Nat} (hk:k < row.length):(fun x=>if x=row[k].name then row[k].hid else inn (row.take (k+1)) x)=inn (row.take k):=funext fun x=>inn_take h hk x
section
variable {w0 w w1:World} {Y Z:List Nat} {q g:Nat} {h:Hd} {own:ByteArray→Nat} {R:Rws} {N:List ByteArray}
set_option maxHeartbeats 8000000 in
set_option maxRecDepth 20000 in
theorem leave_any {r:List ByteArray} (s:Sc w0 w Y q g h own (r::R) N) (hl:R.length≤1000000000000) (hB:(bnd R).length+r.length≤1000000000000) :
    Calls Tryd.prog 67 #[.pointer (some ⟨q,4,none⟩),num r.length] w fun e w'=>e = .returned (.tuple #[])∧ScQ w0 w Y q g h own R N w':=by
  obtain ⟨bv,im,mv,sv,S,s⟩:=s;have c4:=s.head.at (i:=4) rfl;have f4:=s.head.frozen 4;obtain ⟨m,hm⟩:∃ m,r.length=m:=⟨_,rfl⟩
  have hbl:=(bnd_take r R).2;have hbt:=(bnd_take r R).1;have hhid:=bnd_hid (r::R);rw [hm] at hbl hB ⊢;obtain ⟨L,hL⟩:∃ L,R.length=L:=⟨_,rfl⟩
  have hL1:(r::R).length=L+1:=by rw [List.length_cons,hL]
  have hL9:L≤1000000000000:=by omega
  rw [hL1] at s c4;rw [show ((L+1:Nat):Int)=(L:Int)+1 by omega] at c4;have hS0:Sb w0 (w.setCell ⟨q,4,none⟩ (.int .i64 (L:Int))) Y q g h own L (bnd (r::R)) (inn (bnd (r::R))) N bv im mv sv S:=s.setLev L;have hF0:MM.Far Y w (w.setCell ⟨q,4,none⟩ (.int .i64 (L:Int))):=(cellF w q 4 _).mono (fun b hb _=>by rw [List.mem_singleton.1 hb];exact s.yq);have HF0:=Lib.hid hF0;have HS0:=Lib.hid hS0;have HBL:=Lib.hid hbl;have HBT:=Lib.hid hbt;have HH:=Lib.hid hhid;have HL:=Lib.hid hL;have HB:=Lib.hid hB;clear s hS0 hF0 hbl hbt hhid hm hL hL1 hB hl;unfold num at *;go_enter Tryd.func67,Tryd.ntmps67
  go_wp2
  go_loopw [14] (fun s14 wr=>∃ k:Nat,k≤m∧s14 = .int .i64 (k:Int)∧Hid (∃ im,LvX w0 w Y q g h own L ((bnd (r::R)).take ((bnd R).length+m - k)) N im wr)) (fun s14 _=>m - (intOf s14).toNat)
  case atStart =>
    refine ⟨0,by omega,rfl,Lib.hid ?_⟩
    rw [List.take_of_length_le (by have:=HBL.out;omega)];exact ⟨_,_,_,_,_,_,HF0.out,Yto.refl _ _,HS0.out⟩
  case round =>
    obtain ⟨k,hk,rfl,hI⟩:=hrel;clear HS0 HF0;by_cases hlt:k < m
    · obtain ⟨j,hj⟩:∃ j,(bnd R).length+m - k=j+1:=⟨(bnd R).length+m - k - 1,by omega⟩
      rw [hj] at hI;obtain ⟨im,Y1,bv,mv,sv,S,hF1,hy1,s1⟩:=hI.out;have hjl:j < (bnd (r::R)).length:=by have:=HBL.out;omega
      have hlen:((bnd (r::R)).take (j+1)).length=j+1:=by rw [List.length_take];omega
      obtain ⟨bA,bc,he,hbc1,hbc2,hat⟩:=s1.at5;subst he;obtain ⟨bb,rfl,hbb,d0,d1,d2,d3⟩:=hat j (by omega);have hinn:=inn_less HH.out hjl;have eg:((bnd (r::R)).take (j+1))[j]'(by omega)=(bnd (r::R))[j]:=by rw [List.getElem_take]
      rw [eg] at d0 d1 d2 d3;have hti:inn ((bnd (r::R)).take (j+1)) (bnd (r::R))[j].name≠0:=by
        rw [List.take_add_one,List.getElem?_eq_getElem hjl];simp only [Option.toList]
        rw [inn_snoc,if_pos rfl];omega
      have hM:∃ mb,im = .map (some mb)∧MapN wr mb (inn ((bnd (r::R)).take (j+1))):=by
        rcases s1.map with ⟨_,h1⟩ | h1
        · exact absurd (h1 _) hti
        · exact h1
      obtain ⟨mb,rfl,hM⟩:=hM;rw [hlen] at s1 hbc1;have HINN:=Lib.hid hinn;have hcut:((bnd (r::R)).take (j+1)).take j=(bnd (r::R)).take j:=by rw [List.take_take,Nat.min_eq_left (by omega)]
      have HCUT:=Lib.hid hcut;have HLEN:=Lib.hid hlen;have HJ:Hid ((bnd R).length+m - (k+1)=j):=Lib.hid (by omega);have hm9:m≤1000000000000:=by have:=HB.out;omega
      generalize hX:(bnd (r::R))[j]=X at *;obtain ⟨xn,xl,xp,xh⟩:=X;simp only at d0 d1 d2 d3 HINN
      have c5:=s1.head.at (i:=5) rfl;have c6:=s1.head.at (i:=6) rfl;obtain ⟨OB,hOB⟩:∃ o:Obj,.cells #[.string xn,.int .i64 (xl:Int),.int .i64 (xp:Int),.int .i64 (xh:Int)] 137=o:=⟨_,rfl⟩
      have FA:MM.Far [] wr (wr.alloc OB):=(MM.Far.refl [] wr).alloc _;have c6a:=farC FA c6;obtain ⟨w3,hup,hset,hfar⟩:=(hM.far FA.drew (by simp)).up xn xh;rw [HINN.out] at hset;have s3:=(s1.to FA.drew).upd hset hfar;have k5:=s3.head.at (i:=5) rfl;have kf5:=s3.head.frozen 5;have HS3:=Lib.hid s3;have HF1:=Lib.hid hF1;have HY1:=Lib.hid hy1;have HFA:=Lib.hid (FA.drew.mono (S':=[mb]) (by simp) |>.trans hfar (fun b hb _=>hb));have HMB:=Lib.hid (s1.ym mb rfl);have HQ:=Lib.hid s1.yq;have hb0:¬ bc=0:=by omega
      unfold maxLen at hbc2;have hw1:((j+1:Nat):Int) - 1=(j:Int):=by omega
      have hi0:(0:Int)≤(j:Int):=by omega
      have hi1:(j:Int) < (j:Int)+1:=by omega
      have hi2:(j:Int)≤(bc:Int):=by omega
      clear s1 hM hset hfar s3 hF1 hy1 hinn hcut hlen hat eg hti hX FA hI hjl hj;subst hOB;unfold num at *;go_wp2;go_region
      all_goals
        go_wp2;go_roundw
        case rel =>
          refine ⟨k+1,by omega,by go_num,Lib.hid ?_⟩
          rw [HJ.out];have k1:=HS3.out.cut j (by omega) HLEN.out.symm;rw [HCUT.out] at k1;exact ⟨_,Y1,_,_,_,_,far_y HF1.out ⟨HY1.out.sub,HY1.out.new⟩ (((HFA.out.mono (S':=Y1) (fun b hb _=>by rw [List.mem_singleton.1 hb];exact HMB.out))).trans (cellF _ q 5 _) (fun b hb _=>by rw [List.mem_singleton.1 hb];exact HQ.out)) (fun b hb _=>hb),⟨HY1.out.sub,HY1.out.new⟩,k1⟩
        case measure=>simp [intOf];omega
    · obtain rfl:k=m:=by omega
      have hi1:¬ (k:Int) < (k:Int):=by omega
      go_wp2;refine bodyPost_end (results_none rfl _ _ _) rfl ?_
      have hB:(bnd R).length+k - k=(bnd R).length:=by omega
      obtain ⟨im,Y1,bv,mv,sv,S,hF1,hy1,s1⟩:=hI.out;rw [hB,HBT.out,← HL.out] at s1;exact ⟨rfl,Y1,hy1,hF1,_,_,_,_,_,s1⟩
end
end SM
end Go.Proofs.YtodjaabcjojlkaaDoor
namespace Go.Proofs.YtodjaabcjojlkaaDoor
open Go.RowKit
set_option linter.unusedVariables false
namespace SM
open LX RW6 EX SC
open EW (Sl Bx ptr num strs sz_alloc)
open RX (Nd)
open RM6 (Kin)
theorem plansZ_slice:Tryd.prog.underlying 74=some (.slice 100):=by kernel_rfl
theorem planZ_info:(Tryd.prog.info? 100).map (fun i=>(i.zero,i.size,i.bytes))=some (some (.agg #[.int .i64 0,.int .u8 0,.int .i64 0,.int .i64 0,.int .i64 0,.string ⟨#[]⟩,.slice none 0 0,.int .u64 0,.slice none 0 0,.slice none 0 0]),10,136):=by kernel_rfl
structure Sy (w0 w:World) (Z Y:List Nat) (q g:Nat) (dv lv dm:Value) (own:ByteArray→Nat) (R:Rws) (N:List ByteArray) (fv tv hv ov:Value) (rs:List (Rf × Value)) (tops:List Nat) (os:List Pz) (ex:List (Value × List Nat)):Prop where
  sc:Sc w0 w Y q g ⟨dv,lv,dm,fv,tv,hv⟩ own R N
  mc:Mc w0 w Z Y q fv tv ov rs tops os ex
def aftO (n:Nat):List Oq→List Oq
  | []=>[]
  | o::os=>o.add n::os
def aftT (n:Nat) (os:List Oq) (tops:List Nat):List Nat:=match os with
  | []=>tops++[n]
  | _::_=>tops
section
variable {w0 w w1:World} {Z Y:List Nat} {q g:Nat} {dv lv dm:Value} {own:ByteArray→Nat} {R:Rws} {N:List ByteArray} {fv tv hv ov:Value} {rs:List (Rf × Value)} {tops:List Nat} {os:List Pz} {ex:List (Value × List Nat)}
theorem Sy.to (h:Sy w0 w Z Y q g dv lv dm own R N fv tv hv ov rs tops os ex) (f:MM.Far [] w w1):Sy w0 w1 Z Y q g dv lv dm own R N fv tv hv ov rs tops os ex:=⟨h.sc.to f,h.mc.to f⟩
theorem Sy.head (h:Sy w0 w Z Y q g dv lv dm own R N fv tv hv ov rs tops os ex):∃ bv im,MM.Row w q 76 [dv,lv,ptr g,dm,num R.length,bv,im,fv,tv,hv]:=h.sc.head
theorem Sy.far (h:Sy w0 w Z Y q g dv lv dm own R N fv tv hv ov rs tops os ex):MM.Far [] w0 w:=by
  obtain ⟨bv,im,mv,sv,S,s⟩:=h.sc;exact s.far
theorem Sc.yq {h:Hd} (s:Sc w0 w Y q g h own R N):q∈Y:=by
  obtain ⟨bv,im,mv,sv,S,s⟩:=s;exact s.yq
theorem Sc.ylt {h:Hd} (s:Sc w0 w Y q g h own R N):∀ b∈Y,b < w.heap.size:=by
  obtain ⟨bv,im,mv,sv,S,s⟩:=s;exact s.lt
theorem Sc.dmlt {h:Hd} (s:Sc w0 w Y q g h own R N):∀ b,h.dm = .map (some b)→∃ es clock,w.heap[b]? = some (.map es clock):=by
  obtain ⟨bv,im,mv,sv,S,s⟩:=s;intro b e
  rcases s.dfd with ⟨h1,_⟩ | ⟨mb,h1,hm⟩
  · rw [h1] at e;cases e
  · rw [h1] at e;cases e;obtain ⟨es,clock,hb,_⟩:=hm.has;exact ⟨es,clock,hb⟩
theorem Sc.row {h:Hd} {e:TypeId} {size n base:Nat} {v:Value} {xs:List Value} (s:Sc w0 w Y q g h own R N) (hr:w.ownsRow base e size v n xs) (hb:w0.heap.size≤base) (hy:∀ b,v.ownBlock=some b→b∉Y) (f:MM.Far v.ownBlock.toList w w1):Sc w0 w1 Y q g h own R N :=
  s.off f (fun b hm=>by
    have hv:v.ownBlock=some b:=by simpa using hm
    refine ⟨hy b hv,Nat.le_trans hb (MM.own_lt hr b hv).2,fun e=>?_⟩
    obtain ⟨es,clock,hmb⟩:=s.dmlt b e;obtain ⟨cs,hcs⟩:=NW.own_block hr b hv;rw [hmb] at hcs;cases hcs)
theorem Sc.setF {h:Hd} (s:Sc w0 w Y q g h own R N) (u:Value):Sc w0 (w.setCell ⟨q,7,none⟩ u) Y q g { h with fv:=u } own R N:=by
  obtain ⟨bv,im,mv,sv,S,s⟩:=s;exact ⟨bv,im,mv,sv,S,s.setF u⟩
theorem Sc.setT {h:Hd} (s:Sc w0 w Y q g h own R N) (u:Value):Sc w0 (w.setCell ⟨q,8,none⟩ u) Y q g { h with tv:=u } own R N:=by
  obtain ⟨bv,im,mv,sv,S,s⟩:=s;exact ⟨bv,im,mv,sv,S,s.setT u⟩
theorem Sc.setH {h:Hd} (s:Sc w0 w Y q g h own R N) (u:Value):Sc w0 (w.setCell ⟨q,9,none⟩ u) Y q g { h with hv:=u } own R N:=by
  obtain ⟨bv,im,mv,sv,S,s⟩:=s;exact ⟨bv,im,mv,sv,S,s.setH u⟩
theorem Sy.form {fv':Value} (x:Rf) (hx:Value) (h:Sy w0 w Z Y q g dv lv dm own R N fv tv hv ov rs tops os ((hx,x.l)::ex))
    (hr:w1.ownsRow w0.heap.size 33 8 fv' (rs.length+1) (rfC rs++rfL (x,hx))) (f:MM.Far fv.ownBlock.toList w w1) (hat:fv'.ownBlock=fv.ownBlock∨∃ b,fv'.ownBlock=some b∧w.heap.size≤b) :
    Sy w0 (w1.setCell ⟨q,7,none⟩ fv') (fv'.ownBlock.toList++Z) Y q g dv lv dm own R N fv' tv hv ov (rs++[(x,hx)]) tops os ex :=
  ⟨(h.sc.row h.mc.row (Nat.le_refl _) (fun b hb=>(h.mc.zf b hb).2) f).setF fv',(h.mc.form x hx h.far.size hr f hat).cell h.sc.yq 7 fv'⟩
theorem Sy.top {tv':Value} {n:Nat} (h:Sy w0 w Z Y q g dv lv dm own R N fv tv hv ov rs tops os ex)
    (hr:w1.ownsRow w0.heap.size 3 1 tv' (tops.length+1) (ints tops++[.int .i64 ((n:Nat):Int)])) (f:MM.Far tv.ownBlock.toList w w1) (hat:tv'.ownBlock=tv.ownBlock∨∃ b,tv'.ownBlock=some b∧w.heap.size≤b) :
    Sy w0 (w1.setCell ⟨q,8,none⟩ tv') (tv'.ownBlock.toList++Z) Y q g dv lv dm own R N fv tv' hv ov rs (tops++[n]) os ex :=
  ⟨(h.sc.row (h.mc.kin.each _ (List.mem_cons_self ..)) (Nat.le_refl _) (fun b hb=>(h.mc.zk _ (List.mem_cons_self ..) b hb).2) f).setT tv',(h.mc.top h.far.size hr f hat).cell h.sc.yq 8 tv'⟩
theorem Sy.push {ov':Value} (x:Pz) (hl:x.o.f.l=[]) (hlv:x.lv = .slice none 0 0) (h:Sy w0 w Z Y q g dv lv dm own R N fv tv hv ov rs tops os ex) (hp:∃ vs,Sl w Z x.av vs∧Ips w Z q vs x.o.ps)
    (hr:w1.ownsRow w0.heap.size 100 10 ov' (os.length+1) (pzC os.reverse++pzL x)) (f:MM.Far ov.ownBlock.toList w w1) (hat:ov'.ownBlock=ov.ownBlock∨∃ b,ov'.ownBlock=some b∧w.heap.size≤b) :
    Sy w0 (w1.setCell ⟨q,9,none⟩ ov') (ov'.ownBlock.toList++Z) Y q g dv lv dm own R N fv tv ov' ov' rs tops (x::os) ex :=
  ⟨(h.sc.row h.mc.op (Nat.le_refl _) (fun b hb=>(h.mc.zo b hb).2) f).setH ov',(h.mc.push x hl hlv h.far.size hp hr f hat).cell h.sc.yq 9 ov'⟩
theorem Sy.cut (h:Sy w0 w Z Y q g dv lv dm own R N fv tv hv ov rs tops os ex):Sy w0 (w.setCell ⟨q,9,none⟩ ov) Z Y q g dv lv dm own R N fv tv ov ov rs tops os ex:=⟨h.sc.setH ov,h.mc.cell h.sc.yq 9 ov⟩
theorem Sy.drop {x:Pz} {og c:Nat} (h:Sy w0 w Z Y q g dv lv dm own R N fv tv hv (.slice (some ⟨og,0,none⟩) (os.length+1) c) rs tops (x::os) ex):Sy w0 w Z Y q g dv lv dm own R N fv tv hv (.slice (some ⟨og,0,none⟩) os.length c) rs tops os ((x.lv,x.o.f.l)::ex):=⟨h.sc,h.mc.drop⟩
theorem Sy.more {lv':Value} {x:Pz} {n og c:Nat} (h:Sy w0 w Z Y q g dv lv dm own R N fv tv hv ov rs tops (x::os) ex) (hov:ov = .slice (some ⟨og,0,none⟩) (os.length+1) c)
    (hr:w1.ownsRow w0.heap.size 3 1 lv' (x.o.f.l.length+1) (ints x.o.f.l++[.int .i64 ((n:Nat):Int)])) (f:MM.Far x.lv.ownBlock.toList w w1) (hat:lv'.ownBlock=x.lv.ownBlock∨∃ b,lv'.ownBlock=some b∧w.heap.size≤b) :
    Sy w0 (w1.setCell ⟨og,os.length*10+8,none⟩ lv') (lv'.ownBlock.toList++Z) Y q g dv lv dm own R N fv tv hv ov rs tops (⟨x.o.add n,lv',x.av⟩::os) ex:=by
  have hmem:(x.lv,x.o.f.l)∈((tv,tops)::(kinsR rs++(kinsZ (x::os)++ex))):=by simp [kinsZ]
  have s1:=h.sc.row (h.mc.kin.each _ hmem) (Nat.le_refl _) (fun b hb=>(h.mc.zk _ hmem b hb).2) f;have hO:=MM.own_far h.mc.op f (off_ownZ h.mc.op (h.mc.kin.each _ hmem) (by decide));have hog:=h.mc.zo og (by rw [hov];rfl);refine ⟨s1.off (cellF w1 og _ lv') (fun b hb=>?_),h.mc.more h.far.size hov hr f hat⟩
  obtain rfl:b=og:=by simpa using hb
  refine ⟨hog.2,h.mc.low _ hog.1,fun e=>?_⟩
  obtain ⟨es,clock,hmb⟩:=s1.dmlt b e;obtain ⟨cs,hcs⟩:=NW.own_block hO b (by rw [hov];rfl);rw [hmb] at hcs;cases hcs
theorem Sy.eval {Y':List Nat} {R':Rws} {N':List ByteArray} (h:Sy w0 w Z Y q g dv lv dm own R N fv tv hv ov rs tops os ex) (hY:Yto w Y Y') (f:MM.Far Y w w1) (hs:Sc w0 w1 Y' q g ⟨dv,lv,dm,fv,tv,hv⟩ own R' N'):Sy w0 w1 (Y'++Z) Y' q g dv lv dm own R' N' fv tv hv ov rs tops os ex :=
  ⟨hs,h.mc.eval hY f hs.ylt h.far.size⟩
theorem evalZ {Y':List Nat} (h:Mc w0 w Z Y q fv tv ov rs tops os ex) (hY:Yto w Y Y'):Yto w Z (Y'++Z):=⟨fun b hb=>List.mem_append_right _ hb,fun b hb=>(List.mem_append.1 hb).elim (fun hb=>(hY.new b hb).imp (h.sub b) id) .inl⟩
end
end SM
end Go.Proofs.YtodjaabcjojlkaaDoor
