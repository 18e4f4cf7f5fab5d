/-
  Several texts in one: NamesRef,ScoC1,ScoC4,ScoTab.
-/
import Derived.Test.YtkcgbhlnkfogeaaGreatDoorQNamesAll
import Derived.Test.YtkcgbhlnkfogeaaGreatDoorQScoSt
import Derived.Deep.DeepCutAuto
import Derived.BigQuiet
import Derived.Deep.LoopGhost
import Derived.Deep.RegionLaw
import Derived.Deep.RegionHeld3
import Derived.Lib.LaidTab
import Derived.ChangeSame
namespace Go.Proofs.YtkcgbhlnkfogeaaGreatDoor
open Go.RowKit Go.Maps
namespace NW
theorem eq_yes {a b:ByteArray} (h:a=b):(a.toList == b.toList)=true:=by subst h;simp
theorem eq_no {a b:ByteArray} (h:a≠b):(a.toList == b.toList)=false:=by
  rw [beq_eq_false_iff_ne];intro e;rw [Lib.toList_data,Lib.toList_data] at e;exact h (ByteArray.ext (Array.toList_inj.1 e))
def Miss (L:List ByteArray) (s:ByteArray) (k:Nat):Prop:=∀ j,j < k→L[j]?≠some s
theorem Miss.step {L:List ByteArray} {s:ByteArray} {k:Nat} (h:Miss L s k) (hk:k < L.length) (e:L[k]≠s):Miss L s (k+1):=by
  intro j hj;by_cases hjk:j=k
  · subst hjk;rw [List.getElem?_eq_getElem hk];simpa using e
  · exact h j (by omega)
theorem Miss.found {L:List ByteArray} {s:ByteArray} {k:Nat} (h:Miss L s k) (hk:k < L.length) (e:L[k]=s):NP.findI L s=k∧NP.findB L s=true:=by
  have hm:s∈L:=by rw [← e];exact List.getElem_mem _
  refine ⟨?_,NP.findB_yes hm⟩
  rw [NP.findI_yes hm];have h1:L.idxOf s < L.length:=List.idxOf_lt_length_iff.2 hm;have h2:L[L.idxOf s]? = some s:=by rw [List.getElem?_eq_getElem h1];simp
  have h3:¬ L.idxOf s < k:=fun hl=>h _ hl h2
  have h4:L.idxOf s≤k:=by
    rcases Nat.lt_or_ge k (L.idxOf s) with h5 | h5
    · have:=List.not_of_lt_findIdx (p:=(· == s)) (xs:=L) (i:=k) h5;rw [e] at this;simp at this
    · exact h5
  omega
theorem Miss.none_ {L:List ByteArray} {s:ByteArray} (h:Miss L s L.length):NP.findI L s=0∧NP.findB L s=false:=by
  have hm:s∉L:=by
    intro hm;obtain ⟨j,hj,e⟩:=List.mem_iff_getElem.1 hm;exact h j hj (by rw [List.getElem?_eq_getElem hj,e])
  exact ⟨NP.findI_no hm,NP.findB_no hm⟩
def RF (L:List ByteArray) (s:ByteArray) (i:Value):Prop:=∃ k:Nat,k≤L.length∧i = .int .i64 (k:Int)∧Hid (Miss L s k)
section
variable {w:World} {L:List ByteArray} {v:Value} {base:Nat}
set_option maxHeartbeats 1000000 in
theorem rfind_any (h:w.ownsRow base 9 1 v L.length (strs L)) (s:ByteArray) (hm:L.length≤4096):Calls Tryz.prog 179 #[v,.string s] w fun e w'=>e = .returned (.tuple #[.int .i64 (NP.findI L s),.bool (NP.findB L s)])∧w=w':=by
  obtain ⟨A,c,rfl,_,hc1,hc2,hsrc,_⟩:=MO.form h;unfold maxLen at hc2;have H:=Lib.hid hsrc;clear hsrc h;go_enter Tryz.func179,Tryz.ntmps179
  go_wp2
  go_loop [6] (fun i=>RF L s i) (fun i=>L.length - (intOf i).toNat)
  case atStart=>exact ⟨0,by omega,rfl,Lib.hid (fun j hj=>absurd hj (by omega))⟩
  case round =>
    obtain ⟨k,hk,rfl,hmiss⟩:=hrel;by_cases hlt:k < L.length
    · obtain ⟨ad,rfl,_,_,hc⟩:=H.out [] (by simp) (by simp [strs];omega);obtain ⟨b,off,spot⟩:=ad;obtain ⟨t,ht⟩:∃ t,t=L[k]:=⟨_,rfl⟩
      obtain rfl:spot=none:=by
        have h1:=hc 0 (.string (L[0]'(by omega))) (by simp [strs,List.getElem?_eq_getElem (show 0 < L.length by omega)]);rw [show (⟨b,off,spot⟩:Addr).add 0=⟨b,off,spot⟩ from by simp [Addr.add]] at h1;exact World.cell?_spot h1
      have c0:=hc k (.string t) (by simp [strs,hlt,ht]);rw [show (⟨b,off,none⟩:Addr).add k=⟨b,off+k,none⟩ from by unfold Addr.add;split;(rename_i h0;subst h0;rfl);rfl] at c0;have HT:=Lib.hid ht;clear hc ht;by_cases e:t=s
      · have e1:=eq_yes e;obtain ⟨f1,f2⟩:=hmiss.out.found hlt (by rw [← HT.out];exact e);have F:=Lib.hid (And.intro f1 f2);clear e f1 f2;go_wp2;go_ret2
        rw [F.out.1,F.out.2];exact ⟨rfl,rfl⟩
      · have e1:=eq_no e;have HE:=Lib.hid e;clear e;go_wp2
        go_round
        case rel=>exact ⟨k+1,by omega,by go_num,Lib.hid (hmiss.out.step hlt (by rw [← HT.out];exact HE.out))⟩
        case measure=>simp [intOf];omega
    · obtain rfl:k=L.length:=by omega
      have F:=Lib.hid hmiss.out.none_;go_wp2;go_ret2
      rw [F.out.1,F.out.2];exact ⟨rfl,rfl⟩
def Rn (a:World) (base:Nat) (T:List ByteArray) (v:Value) (w:World):Prop:=w.ownsRow base 9 1 v T.length (strs T)∧MM.Far [] a w
set_option maxHeartbeats 1000000 in
theorem rput_any (h:w.ownsRow base 9 1 v L.length (strs L)) (s:ByteArray) (hm:L.length≤4096) (hs:s.size≤maxLen) (hb:base≤w.heap.size):Calls Tryz.prog 151 #[v,.string s] w fun e w' =>
    ∃ v',e = .returned (.tuple #[v',.int .i64 (NP.putI L s),.int .i64 (NP.putE L s)])∧Rn w base (NP.putL L s) v' w'∧∀ b,v'.ownBlock=some b→v.ownBlock=some b∨w.heap.size≤b:=by
  unfold maxLen at hs;by_cases hf:NP.fits s
  · obtain ⟨A,c,rfl,hA,hc1,hc2,hsrc,_⟩:=MO.form h;unfold maxLen at hc2;have H:=Lib.hid h;by_cases hL:s∈L
    · have e1:NP.putI L s=NP.findI L s:=by simp [NP.putI,hf,hL,NP.findI_yes hL]
      have e2:NP.putE L s=0:=by simp [NP.putE,hf,hL]
      have e3:NP.putL L s=L:=by simp [NP.putL,hL]
      have HB:=Lib.hid (NP.findB_yes hL);rw [e1,e2,e3];obtain ⟨g1,g2⟩:=hf;clear h hsrc hL e1 e2 e3 hA;go_enter Tryz.func151,Tryz.ntmps151
      go_wp2_with (go_at_call 179;refine (rfind_any H.out s hm).mono ?_;rintro e w' ⟨rfl,rfl⟩;rw [HB.out])
      refine bodyPost_ret (results_tmp3 rfl _ _ _) rfl ?_
      exact ⟨_,rfl,⟨H.out,MM.Far.refl _ _⟩,fun b hb=>.inl hb⟩
    · have HB:=Lib.hid (NP.findB_no hL);by_cases hn:L.length < 4096
      · have e1:NP.putI L s=(L.length:Nat):=by simp [NP.putI,hf,hL,hn]
        have e2:NP.putE L s=0:=by simp [NP.putE,hf,hL,hn]
        have e3:NP.putL L s=L++[s]:=by simp [NP.putL,hf,hL,hn]
        rw [e1,e2,e3];have ht:decide ((4096:Int)≤(L.length:Int))=false:=by simp;omega
        obtain ⟨g1,g2⟩:=hf;have HA:=Lib.hid hA;have HSR:=Lib.hid (hsrc [] (by simp));clear h hL e1 e2 e3 hn hA hsrc;go_enter Tryz.func151,Tryz.ntmps151
        go_wp2_with (first
          | (go_at_call 179;refine (rfind_any H.out s hm).mono ?_;rintro e w' ⟨rfl,rfl⟩;rw [HB.out])
          | (at_builtin
             refine MO.wpList_append _ ?_ (.tmp 31) (.tmp 32) 34 ?_ base 9 (.string ⟨#[]⟩) 1 16 Tryz.underlying34 string_info rfl (by omega) _ 0 [] ?_ (MO.of_row (MM.Row.new w 9 []) hb rfl (by unfold maxLen;omega)) A L.length c (strs L) ?_ (by simp [strs]) ?_ [] ?_ (strs_one L) (by unfold maxLen;omega) (by omega) (by simp;omega) ?_
             · rfl
             · rfl
             · rfl
             · rfl
             · intro e;have:=HA.out e;omega
             · exact HSR.out.far ((MM.Far.refl [] w).alloc _) (by simp)
             intro v1 w1 o1 hg1 hl1)
          | (at_builtin
             refine MO.wpList_append _ ?_ (.tmp 33) (.tmp 35) 34 ?_ base 9 (.string ⟨#[]⟩) 1 16 Tryz.underlying34 string_info rfl (by omega) v1 (0+L.length) ([]++strs L) ?_ (o1.alloc _) (some ⟨w1.heap.size,0,none⟩) 1 1 [.string s] ?_ rfl (fun h=>by cases h) [] ?_ (strs_one [_]) (by unfold maxLen;omega) (by omega) ?_ ?_
             · rfl
             · rfl
             · rfl
             · rfl
             · exact MM.Src.row (MM.Row.new _ _ [.string s]) (by simp) _ (fun j u hu=>hu)
             · have:=hg1.size;simp at this ⊢;omega
             intro v2 w2 o2 hg2 hl2))
        refine bodyPost_ret (results_tmp3 rfl _ _ _) rfl ?_
        refine ⟨_,rfl,⟨?_,?_⟩,?_⟩
        · rw [List.length_append,List.length_singleton];simpa [strs] using o2
        · have k1:=hg1.size;have F1:MM.Far [] w w1:=((MM.Far.refl [] w).alloc _).trans (MM.Far.of_grown (S:=[w.heap.size]) hg1 (fun b hb _=>by simpa [Value.ownBlock,eq_comm] using hb)) (fun b hb hl=>by simp at hb;omega);refine (F1.alloc _).trans (MM.Far.of_grown (S:=v1.ownBlock.toList) hg2 (fun b hb _=>by simp [hb])) (fun b hb hl=>?_)
          have hb':v1.ownBlock=some b:=by simpa using hb
          rcases hl1 with e | e
          · rw [e] at hb';simp [Value.ownBlock] at hb';omega
          · rw [e] at hb';simp at hb';omega
        · intro b hb0;have hb:v2.ownBlock=some b:=hb0;have k1:=hg1.size;simp at k1
          right
          rcases hl2 with e | e
          · rw [e] at hb
            rcases hl1 with e' | e'
            · rw [e'] at hb;simp [Value.ownBlock] at hb;omega
            · rw [e'] at hb;simp at hb;omega
          · rw [e] at hb;simp at hb;omega
      · have e1:NP.putI L s=0:=by simp [NP.putI,hf,hL,hn]
        have e2:NP.putE L s=3:=by simp [NP.putE,hf,hL,hn]
        have e3:NP.putL L s=L:=by simp [NP.putL,hn]
        rw [e1,e2,e3];have ht:decide ((4096:Int)≤(L.length:Int))=true:=by simp;omega
        obtain ⟨g1,g2⟩:=hf;clear h hsrc hL e1 e2 e3 hn hA;go_enter Tryz.func151,Tryz.ntmps151
        go_wp2_with (go_at_call 179;refine (rfind_any H.out s hm).mono ?_;rintro e w' ⟨rfl,rfl⟩;rw [HB.out])
        refine bodyPost_ret (results_tmp3 rfl _ _ _) rfl ?_
        exact ⟨_,rfl,⟨H.out,MM.Far.refl _ _⟩,fun b hb=>.inl hb⟩
  · have e1:NP.putI L s=0:=by simp [NP.putI,hf]
    have e2:NP.putE L s=1:=by simp [NP.putE,hf]
    have e3:NP.putL L s=L:=by simp [NP.putL,hf]
    rw [e1,e2,e3];have hc:s.size < 1∨32 < s.size:=by unfold NP.fits at hf;omega
    have H:=Lib.hid h;clear hf e1 e2 e3 h;by_cases h1:s.size < 1
    · clear hc;go_enter Tryz.func151,Tryz.ntmps151
      go_wp2;refine bodyPost_ret (results_tmp3 rfl _ _ _) rfl ?_
      exact ⟨_,rfl,⟨H.out,MM.Far.refl _ _⟩,fun b hb=>.inl hb⟩
    · have h2:32 < s.size:=by omega
      clear hc;go_enter Tryz.func151,Tryz.ntmps151
      go_wp2;refine bodyPost_ret (results_tmp3 rfl _ _ _) rfl ?_
      exact ⟨_,rfl,⟨H.out,MM.Far.refl _ _⟩,fun b hb=>.inl hb⟩
end
end NW
end Go.Proofs.YtkcgbhlnkfogeaaGreatDoor
namespace Go.Proofs.YtkcgbhlnkfogeaaGreatDoor
open Go.RowKit
set_option linter.unusedVariables false
namespace SM
open LX RW6 EX SC
open EW (Sl Bx ptr num strs)
open RX (Nd)
open RM6 (Kin)
theorem Sb.at5 {w0 w:World} {Y S:List Nat} {q g:Nat} {h:Hd} {own:ByteArray→Nat} {lev:Nat} {row:List Bd} {c:ByteArray→Nat} {N:List ByteArray} {bv im mv sv:Value} (s:Sb w0 w Y q g h own lev row c N bv im mv sv S):∃ A cp,bv = .slice A row.length cp∧row.length≤cp∧cp≤maxLen ∧
    ∀ (k:Nat) (hk:k < row.length),∃ b,A=some ⟨b,0,none⟩∧b < w.heap.size∧w.cell? ⟨b,k*4,none⟩=some (.string row[k].name)∧w.cell? ⟨b,k*4+1,none⟩=some (num row[k].lev)∧w.cell? ⟨b,k*4+2,none⟩=some (num row[k].pl)∧w.cell? ⟨b,k*4+3,none⟩=some (num row[k].hid):=by
  obtain ⟨A,cp,rfl,k0,k1,k2,k3,hh⟩:=MO.form s.bind;refine ⟨A,cp,rfl,k1,k2,fun k hk=>?_⟩
  rcases hh with ⟨_,hz,_⟩ | ⟨b,rfl,_,hlt⟩
  · omega
  have cl (j:Nat) (hj:j < 4) (u:Value) (hu:(bdL row[k])[j]? = some u):w.cell? ⟨b,k*4+j,none⟩=some u:=by
    have:=@World.ownsRow.cells w _ _ _ _ _ _ s.bind b rfl (k*4+j) u ((bdC_at row k hk j hj).trans hu);rw [MM.head_add] at this;exact this
  exact ⟨b,rfl,hlt,cl 0 (by omega) _ rfl,cl 1 (by omega) _ rfl,cl 2 (by omega) _ rfl,cl 3 (by omega) _ rfl⟩
theorem farC {w w':World} (f:MM.Far [] w w') {p:Addr} {v:Value} (h:w.cell? p=some v):w'.cell? p=some v:=(f.cell (MR.cell_lt h) (by simp)).trans h
def findV:Option (Nat × Nat)→Value
  | none=>.tuple #[num 0,num 0,.bool false]
  | some (a,n)=>.tuple #[num a,num n,.bool true]
section
variable {w0 w w1:World} {Y:List Nat} {q g:Nat} {h:Hd} {own:ByteArray→Nat} {R:Rws} {N:List ByteArray}
set_option maxHeartbeats 4000000 in
set_option maxRecDepth 20000 in
theorem find_any (s:Sc w0 w Y q g h own R N) (hR:∀ r∈R,r.Nodup) (hl:R.length≤1000000000000) (k:ByteArray):Calls Tryz.prog 201 #[.pointer (some ⟨q,4,none⟩),.string k] w fun e w'=>e = .returned (findV (wher R k))∧MM.Far [] w w':=by
  obtain ⟨bv,im,mv,sv,S,s⟩:=s;obtain ⟨A,cp,rfl,hc1,hc2,hat⟩:=s.at5;have c4:=s.head.at (i:=4) rfl;have c5:=s.head.at (i:=5) rfl;have c6:=s.head.at (i:=6) rfl;have hlook:=s.map.look k;have hwh:=wher_inn k R hR;have hle:=inn_le (bnd R) k;cases hw:wher R k with
  | none =>
    rw [hw] at hwh;have hwh:inn (bnd R) k=0:=hwh;rw [hwh] at hlook;clear hw hwh hle hat s;go_enter Tryz.func201,Tryz.ntmps201
    go_wp2;go_ret3
    exact ⟨rfl,MM.Far.refl _ _⟩
  | some y =>
    obtain ⟨a,n⟩:=y;rw [hw] at hwh;obtain ⟨ha,j,hd,h1,h2⟩:=hwh;have hj:=(List.getElem?_eq_some_iff.1 h2).1;have e:(bnd R)[j]=⟨k,R.length - 1 - a,n,hd⟩:=by
      have:=List.getElem?_eq_getElem hj;rw [h2] at this;exact (Option.some.inj this).symm
    obtain ⟨b,rfl,hb,d0,d1,d2,d3⟩:=hat j hj;rw [e] at d0 d1 d2 d3;rw [h1] at hlook;obtain ⟨m,hm⟩:∃ m,(bnd R).length=m:=⟨_,rfl⟩
    rw [hm] at hj c5 hc1;obtain ⟨L,hL⟩:∃ L,R.length=L:=⟨_,rfl⟩
    rw [hL] at c4 ha hl d0 d1 d2 d3;have hz:decide (((j+1:Nat):Int)=0)=false:=by simp;omega
    have hw1:((j+1:Nat):Int) - 1=(j:Int):=by omega
    have hi0:(0:Int)≤(j:Int):=by omega
    have hi1:(j:Int) < (m:Int):=by omega
    have hml:m≤maxLen:=by omega
    unfold maxLen at hml;have hw2:IntKind.i64.wrap ((L:Int) - 1 - ((L - 1 - a:Nat):Int))=(a:Int):=by rw [show (L:Int) - 1 - ((L - 1 - a:Nat):Int)=(a:Int) by omega];exact IntWalk.i64_in _ (by omega)
    have hw3:(L:Int) - 1 - ((L - 1 - a:Nat):Int)=(a:Int):=by omega
    have c4a:=farC ((MM.Far.refl [] w).alloc (.cells #[.string k,num ((L - 1 - a:Nat):Int),num n,num hd] 249)) c4;clear hw h2 hle hat s e h1 hR hm hL;show Calls _ _ _ _ fun e w'=>e = .returned (.tuple #[num a,num n,.bool true])∧MM.Far [] w w'
    unfold num at *;go_enter Tryz.func201,Tryz.ntmps201
    go_wp2;go_quiet (fail)
    go_wp2;go_ret3
    refine ⟨?_,?_⟩
    · simp
    · exact ((MM.Far.refl [] w).alloc _).drewN _
end
end SM
end Go.Proofs.YtkcgbhlnkfogeaaGreatDoor
namespace Go.Proofs.YtkcgbhlnkfogeaaGreatDoor
open Go.RowKit
set_option linter.unusedVariables false
namespace SM
open LX RW6 EX SC
open EW (Sl Bx ptr num strs)
def primC:List Value:=[.string emp,.int .i64 0]++(primN.zip primM).flatMap fun x=>[.string x.1,.int .i64 (x.2:Nat)]
def PT (w : World) : Prop := w.var? Tryz.prog "eddywheel/scope.primitives" = some primC.toArray
theorem pt_named : Tryz.prog.globalNamed "eddywheel/scope.primitives" = some 0 := by kernel_rfl
theorem PT.far {W w:World} (h:PT W) (f:MM.Far [] W w):PT w:=by
  unfold PT World.var? at *;rw [pt_named] at h ⊢;simp only [Option.bind_some] at h ⊢
  have hlt:0 < W.heap.size:=by
    rcases Nat.lt_or_ge 0 W.heap.size with hb | hb
    · exact hb
    · rw [Array.getElem?_eq_none hb] at h;cases h
  rw [f.block _ hlt (by simp)];exact h
theorem PT.obj {w:World} (h:PT w):∃ t fr,w.heap[0]? = some (.cells primC.toArray t fr):=by
  unfold PT World.var? at h;rw [pt_named] at h;simp only [Option.bind_some] at h
  split at h
  · rename_i cs t fr e;injection h with h;subst h;exact ⟨t,fr,e⟩
  · cases h
theorem pt_size:(Tryz.prog.info? 112).map (·.size)=some 62:=by kernel_rfl
theorem primC_size:primC.toArray.size=62:=by decide
def nmP (k:Nat):ByteArray:=if k=0 then emp else primN.getD (k - 1) emp
def mnP (k:Nat):Nat:=if k=0 then 0 else primM.getD (k - 1) 0
theorem prim_ix (W:World) (k:Nat) (hk:k < 31):(Instr.index 112 (.agg primC.toArray) (.int .i64 (k:Nat))).run Tryz.prog W = .ok (.agg #[.string (nmP k),.int .i64 (mnP k:Nat)]) W :=
  match k,hk with
  | 0,_=>by kernel_rfl
  | 1,_=>by kernel_rfl
  | 2,_=>by kernel_rfl
  | 3,_=>by kernel_rfl
  | 4,_=>by kernel_rfl
  | 5,_=>by kernel_rfl
  | 6,_=>by kernel_rfl
  | 7,_=>by kernel_rfl
  | 8,_=>by kernel_rfl
  | 9,_=>by kernel_rfl
  | 10,_=>by kernel_rfl
  | 11,_=>by kernel_rfl
  | 12,_=>by kernel_rfl
  | 13,_=>by kernel_rfl
  | 14,_=>by kernel_rfl
  | 15,_=>by kernel_rfl
  | 16,_=>by kernel_rfl
  | 17,_=>by kernel_rfl
  | 18,_=>by kernel_rfl
  | 19,_=>by kernel_rfl
  | 20,_=>by kernel_rfl
  | 21,_=>by kernel_rfl
  | 22,_=>by kernel_rfl
  | 23,_=>by kernel_rfl
  | 24,_=>by kernel_rfl
  | 25,_=>by kernel_rfl
  | 26,_=>by kernel_rfl
  | 27,_=>by kernel_rfl
  | 28,_=>by kernel_rfl
  | 29,_=>by kernel_rfl
  | 30,_=>by kernel_rfl
  | n+31,h=>absurd h (by omega)
section
variable {w:World}
set_option maxHeartbeats 4000000 in
set_option maxRecDepth 20000 in
theorem prim_any (h:PT w) (s:ByteArray):Calls Tryz.prog 20 #[.string s] w fun e w'=>e = .returned (.tuple #[num (primO s),num (primK s),.bool (isPrim s)])∧MM.Far [] w w':=by
  obtain ⟨tt,fr,hg⟩:=h.obj;obtain ⟨cs,hcs⟩:∃ cs,primC.toArray=cs:=⟨_,rfl⟩
  have hsz:=primC_size;rw [hcs] at hg hsz;have HCS:=Lib.hid hcs;have hi:(Tryz.prog.info? 112).map (·.size)=some cs.size:=by rw [hsz];exact pt_size
  have HG:=Lib.hid hg;have HSZ:=Lib.hid hsz;have HI:=Lib.hid hi;clear hcs h hg hsz hi;go_enter Tryz.func20,Tryz.ntmps20
  go_wp2_with (first
    | (refine wpList_load_row rfl 112 (.global 0) rfl 0 rfl tt cs fr _ HG.out Tryz.underlying112 rfl HI.out ?_)
    | (refine wp_load_row 112 (.global 0) rfl 0 rfl tt cs fr _ HG.out Tryz.underlying112 rfl HI.out ?_))
  go_loopw [8] (fun s8 wr=>∃ k:Nat,k≤31∧s8 = .int .i64 (k:Int)∧Hid (MM.Far [] w wr∧∀ j,j+1 < k→primN.getD j emp≠s)) (fun s8 _=>31 - (intOf s8).toNat)
  case atStart=>exact ⟨0,by omega,rfl,Lib.hid ⟨MM.Far.refl _ _,fun j hj=>by omega⟩⟩
  case round =>
    obtain ⟨k,hk,rfl,hH⟩:=hrel;by_cases hlt:k < 31
    · have hi0:(0:Int)≤(k:Int):=by omega
      have hi1:(k:Int) < 31:=by omega
      have hidx:=fun W=>prim_ix W k hlt
      rw [HCS.out] at hidx;have HN:Hid (nmP k=if k=0 then emp else primN.getD (k - 1) emp):=Lib.hid rfl;have HK:Hid (mnP k=if k=0 then 0 else primM.getD (k - 1) 0):=Lib.hid rfl;generalize nmP k=x at *;generalize mnP k=y at *;by_cases hk0:k=0
      · have hg0:¬ (0:Int) < (k:Int):=by omega
        have HK0:=Lib.hid hk0;clear hk0 HN HK;go_wp2;go_roundw
        case rel=>exact ⟨k+1,by omega,by go_num,Lib.hid ⟨hH.out.1.alloc _,fun j hj=>by have:=HK0.out;omega⟩⟩
        case measure=>simp [intOf];omega
      · have hg0:(0:Int) < (k:Int):=by omega
        rw [if_neg hk0] at HN HK;by_cases hx:x=s
        · subst hx;go_wp2;go_quiet (fail)
          go_wp2;go_ret3
          have hpp:primO x=k∧primK x=y∧isPrim x=true:=by
            have hN:=HN.out;have hl:primN.length=30:=rfl;rw [List.getD_eq_getElem?_getD,List.getElem?_eq_getElem (by omega)] at hN;have hN:x=primN[k - 1]:=hN;have hm:x∈primN:=by rw [hN];exact List.getElem_mem _
            have hix:primN.idxOf x=k - 1:=by
              have hnd:primN.Nodup:=by decide
              rw [hN];exact hnd.idxOf_getElem _ _
            unfold primO primK isPrim;rw [if_pos hm,if_pos hm,decide_eq_true hm,hix,HK.out];exact ⟨by omega,rfl,rfl⟩
          rw [hpp.1,hpp.2.1,hpp.2.2];exact ⟨rfl,(hH.out.1.alloc _).drewN _⟩
        · have heq:(x.toList == s.toList)=false:=NW.eq_no hx;go_wp2;go_roundw
          case rel =>
            refine ⟨k+1,by omega,by go_num,Lib.hid ⟨hH.out.1.alloc _,fun j hj=>?_⟩⟩
            by_cases e:j+1=k
            · have:=HN.out;rw [show k - 1=j by omega] at this;rw [← this];exact hx
            · exact hH.out.2 j (by omega)
          case measure=>simp [intOf];omega
    · obtain rfl:k=31:=by omega
      go_wp2;go_ret3
      refine ⟨?_,hH.out.1⟩
      have hno:s∉primN:=fun hm=>by
        obtain ⟨j,hj,e⟩:=List.getElem_of_mem hm;have hl:primN.length=30:=rfl;refine hH.out.2 j (by omega) ?_
        rw [List.getD_eq_getElem?_getD,List.getElem?_eq_getElem hj];exact e
      unfold primO primK isPrim;rw [if_neg hno,if_neg hno,decide_eq_false hno];rfl
end
end SM
end Go.Proofs.YtkcgbhlnkfogeaaGreatDoor
namespace Go.Proofs.YtkcgbhlnkfogeaaGreatDoor
open Go.RowKit
set_option linter.unusedVariables false
namespace SM
open LX RW6 EX SC
open EW (Sl Bx ptr num strs)
def primL:List (ByteArray × Int):=(emp,0)::(primN.zip primM).map fun x=>(x.1,(x.2:Int))
theorem primC_eq:primC=primL.flatMap fun x=>[.string x.1,.int .i64 x.2]:=by kernel_rfl
def primD:DataW Unit:=.agg (primL.map fun x=>.agg [.lit (.string x.1.data.toList),.lit (.int .i64 x.2)])
theorem laid_at9 {P:Program} {w:World}:∀ (L:List (String × DataW Unit)) (ps:List MemPlace) (i:Nat) (n:String) (d:DataW Unit),DataW.LaidVars P w L ps→L[i]? = some (n,d) →
    ∃ g t cs fuel p,P.globalNamed n=some g∧(P.globals[g]?).map (·.type)=some t∧w.var? P n=some cs∧DataW.trod (fun _=>()) P w 0 (fun _=>true) false fuel t cs.toList=some (d,p):=by
  intro L;induction L with
  | nil=>intro ps i n d _ h;simp at h
  | cons x L ih =>
    intro ps i n d h hi;obtain ⟨m,e⟩:=x;obtain ⟨g,t,cs,fuel,p,q,h1,h2,h3,h4,h5,_⟩:=h;cases i with
    | zero =>
      simp only [List.getElem?_cons_zero,Option.some.injEq,Prod.mk.injEq] at hi
      obtain ⟨rfl,rfl⟩:=hi;exact ⟨g,t,cs,fuel,p,h1,h2,h3,h4⟩
    | succ i=>exact ih q i n d h5 (by simpa using hi)
theorem trod_arr {H:Type} {enc:TypeId × Value→H} {P:Program} {w:World} {base:Nat} {sp:Nat→Bool} {held:Bool} {fuel:Nat} {t e:TypeId} {n c:Nat} {cs:List Value} {ds:List (DataW H)} {p:List MemPlace}
    (ht:P.underlying t=some (.array n e)) (hce:P.cellsOf e=c) (hct:P.cellsOf t=n*c) (h:DataW.trod enc P w base sp held fuel t cs=some (.agg ds,p)) :
    cs.length=n*c∧∃ m,∀ i,i < n→∃ x,ds[i]? = some x.1∧DataW.trod enc P w base sp held m e ((cs.drop (i*c)).take c)=some x:=by
  cases fuel with
  | zero=>simp [DataW.trod] at h
  | succ fuel =>
    simp only [DataW.trod,ht,hce,hct] at h
    split at h
    · rename_i hl;obtain ⟨xs,hm,hx⟩:=Option.map_eq_some_iff.1 h;have hxs:xs.map (·.1)=ds:=by
        have:=congrArg Prod.fst hx;simpa using this
      refine ⟨by simpa using hl,fuel,fun i hi=>?_⟩
      obtain ⟨b,hb,hf⟩:=Lib.mapM_at hm i i (by simp [hi]);exact ⟨b,by rw [← hxs];simp [hb],hf⟩
    · cases h
theorem prim_type : (Tryz.prog.globals[(Tryz.prog.globalNamed "eddywheel/scope.primitives").getD 0]?).map (·.type) = some 112 := by kernel_rfl
theorem pt_of {W : World} {L : List (String × DataW Unit)} (h : laidMetH Tryz.prog L W) (hH : (L.filter fun x => x.2.handleName?.isSome) = []) (i : Nat) (hi : L[i]? = some ("eddywheel/scope.primitives", primD)) : PT W := by
  unfold laidMetH at h;rw [hH] at h;obtain ⟨ps,hv,_⟩:=h;obtain ⟨g,t,cs,fuel,p,h1,h2,h3,h4⟩:=laid_at9 _ _ _ _ _ hv hi;have ht:=prim_type;rw [h1] at ht;obtain rfl:=Option.some.inj (ht.symm.trans h2);unfold PT;rw [h3];obtain ⟨hl,m,hx⟩:=trod_arr (c:=2) Tryz.underlying112 (by kernel_rfl) (by kernel_rfl) h4;have hcs:cs.toList=primC:=by
    rw [primC_eq];apply List.ext_getElem?
    intro j;obtain ⟨k,r,rfl,hr⟩:∃ k r,j=k*2+r∧r < 2:=⟨j / 2,j % 2,by omega,by omega⟩
    by_cases hk:k < 31
    · obtain ⟨x,hd,hf⟩:=hx k hk;obtain ⟨y0,y1,n,rfl,hl2,g0,g1⟩:=Go.ChangeShapes.trod_struct2 Tryz.underlying111 hf;obtain ⟨s,e0,rfl,_⟩:=DataW.trod_string Tryz.underlying9 g0;obtain ⟨z,e1,rfl,_⟩:=DataW.trod_int Tryz.underlying3 g1;have hk2:k < primL.length:=hk;rw [List.getElem?_map,List.getElem?_eq_getElem hk2] at hd;simp only [Option.map_some,Option.some.injEq,DataW.agg.injEq,List.cons.injEq,DataW.lit.injEq,Lit.string.injEq,Lit.int.injEq,true_and,and_true] at hd
      obtain ⟨d1,d2⟩:=hd;have hs:s=primL[k].1:=by
        obtain ⟨⟨l⟩⟩:=s;generalize primL[k].1=q at d1;obtain ⟨⟨l2⟩⟩:=q;simp only at d1
        rw [d1]
      have f0:cs.toList[k*2]? = some (.string s):=by
        have:=congrArg (·[0]?) e0;have:0 < Tryz.prog.cellsOf 9∧cs[k*2]? = some (Value.string s):=by simpa [List.getElem?_take,List.getElem?_drop] using this
        simpa using this.2
      have f1:cs.toList[k*2+1]? = some (.int .i64 z):=by
        have:=congrArg (·[0]?) e1;have:0 < Tryz.prog.cellsOf 3∧cs[k*2+1]? = some (Value.int .i64 z):=by simpa [List.getElem?_take,List.getElem?_drop] using this
        simpa using this.2
      have key:∀ (l:List (ByteArray × Int)) (k:Nat) (hk:k < l.length) (r:Nat),r < 2→(l.flatMap fun x=>[Value.string x.1,.int .i64 x.2])[k*2+r]? = ([Value.string l[k].1,.int .i64 l[k].2]:List Value)[r]?:=by
        intro l;induction l with
        | nil=>intro k hk;simp at hk
        | cons x l ih =>
          intro k hk r hr;rw [List.flatMap_cons];cases k with
          | zero=>rw [Nat.zero_mul,Nat.zero_add,List.getElem?_append_left (by simp;omega)];rfl
          | succ k =>
            rw [List.getElem?_append_right (by simp;omega)];rw [show (k+1)*2+r - [Value.string x.1,Value.int IntKind.i64 x.2].length=k*2+r from by simp;omega];exact ih k (by simpa using hk) r hr
      rw [key primL k hk2 r hr,← hs,d2]
      match r,hr with
      | 0,_=>exact f0
      | 1,_=>exact f1
    · have hlen:(primL.flatMap fun x=>[Value.string x.1,.int .i64 x.2]).length=62:=by rw [← primC_eq];rfl
      rw [List.getElem?_eq_none (by omega),List.getElem?_eq_none (by omega)]
  rw [← hcs]
end SM
end Go.Proofs.YtkcgbhlnkfogeaaGreatDoor
