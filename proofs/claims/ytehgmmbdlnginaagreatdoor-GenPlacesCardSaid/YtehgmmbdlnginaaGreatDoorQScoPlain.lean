/-
  Several texts in one: NamesAll,NamesRef,ScoPlain.
-/
import Derived.Test.YtehgmmbdlnginaaGreatDoorQCodePlain
import Derived.Test.YtehgmmbdlnginaaGreatDoorProg
import Derived.Test.YtehgmmbdlnginaaGreatDoorQExpDta
import Derived.Maps.OwnSet
import Derived.Lib.Hide
import Derived.Lib.Strings
import Derived.Maps.OwnOps
import Derived.WalkSpells
import Derived.Below
import Derived.ChangeSame
import Derived.Carry
import Derived.Deep.DeepCutAuto
namespace Go.Proofs.YtehgmmbdlnginaaGreatDoor
open Go.Maps Go.WideShapes
namespace NP
def key (s:ByteArray):Lit:=.string s.data.toList
instance:LawfulBEq ByteArray where
  eq_of_beq {a b} h:=by
    exact ByteArray.ext (eq_of_beq (α:=Array UInt8) h)
  rfl {a}:=by
    cases a
    exact beq_self_eq_true (α:=Array UInt8) _
structure Tab (D:DataW Unit) (f:ByteArray→Option Int):Prop where
  isMap:IsMap D
  has:∀ s,Maps.has D (key s)=(f s).isSome
  at_:∀ s,D.atKey (key s) (.lit (.int .i64 0)) = .lit (.int .i64 ((f s).getD 0))
theorem Tab.congr {D:DataW Unit} {f g:ByteArray→Option Int} (h:Tab D f) (e:∀ x,f x=g x):Tab D g:=⟨h.isMap,fun s=>by rw [h.has,e],fun s=>by rw [h.at_,e]⟩
def num (L:List ByteArray) (s:ByteArray):Option Int:=if s∈L then some (L.idxOf s:Int) else none
def findI (L:List ByteArray) (s:ByteArray):Int:=(num L s).getD 0
def findB (L:List ByteArray) (s:ByteArray):Bool:=(num L s).isSome
theorem findB_yes {L:List ByteArray} {s:ByteArray} (h:s∈L):findB L s=true:=by simp [findB,num,h]
theorem findB_no {L:List ByteArray} {s:ByteArray} (h:s∉L):findB L s=false:=by simp [findB,num,h]
theorem findI_yes {L:List ByteArray} {s:ByteArray} (h:s∈L):findI L s=(L.idxOf s:Nat):=by simp [findI,num,h]
theorem findI_no {L:List ByteArray} {s:ByteArray} (h:s∉L):findI L s=0:=by simp [findI,num,h]
def fits (s:ByteArray):Prop:=1≤s.size∧s.size≤32
instance (s:ByteArray):Decidable (fits s):=by unfold fits;infer_instance
def putL (L:List ByteArray) (s:ByteArray):List ByteArray:=if fits s∧s∉L∧L.length < 4096 then L++[s] else L
def putI (L:List ByteArray) (s:ByteArray):Int:=if ¬ fits s then 0 else if s∈L then (L.idxOf s:Nat) else if L.length < 4096 then (L.length:Nat) else 0
def putE (L:List ByteArray) (s:ByteArray):Int:=if ¬ fits s then 1 else if s∈L then 0 else if L.length < 4096 then 0 else 3
def none:ByteArray:=⟨#[]⟩
structure Ok (L:List ByteArray):Prop where
  nd:L.Nodup
  len:L.length≤4096
  each:∀ s∈L,fits s
theorem Ok.nil:Ok []:=⟨List.nodup_nil,by simp,by simp⟩
theorem Ok.putL {L:List ByteArray} (h:Ok L) (s:ByteArray):Ok (putL L s):=by
  unfold NP.putL;by_cases c:fits s∧s∉L∧L.length < 4096
  · rw [if_pos c];refine ⟨?_,by simp;omega,?_⟩
    · rw [List.nodup_append];refine ⟨h.nd,by simp,?_⟩
      intro a ha b hb e;simp at hb
      subst hb;subst e;exact c.2.1 ha
    · intro x hx
      rcases List.mem_append.1 hx with hx | hx
      · exact h.each x hx
      · simp at hx;subst hx;exact c.1
  · rw [if_neg c];exact h
end NP
end Go.Proofs.YtehgmmbdlnginaaGreatDoor
namespace Go.Proofs.YtehgmmbdlnginaaGreatDoor
open Go.RowKit Go.Maps
namespace NW
def strs (L:List ByteArray):List Value:=L.map Value.string
theorem string_info:(Tryz.prog.info? 9).map (fun i=>(i.zero,i.size,i.bytes))=some (some (.string ⟨#[]⟩),1,16):=by kernel_rfl
theorem strs_one (L:List ByteArray):∀ u∈strs L,u.oneCell'=true:=by
  intro u hu;obtain ⟨s,_,rfl⟩:=List.mem_map.1 hu;rfl
section
variable {w:World} {g:Nat} {S:List Nat} {L:List ByteArray} {mv sv:Value}
end
end NW
end Go.Proofs.YtehgmmbdlnginaaGreatDoor
namespace Go.Proofs.YtehgmmbdlnginaaGreatDoor
open Go.RowKit Go.Maps
namespace NW
section
variable {w:World} {g:Nat} {S:List Nat} {L:List ByteArray} {mv sv:Value}
end
end NW
end Go.Proofs.YtehgmmbdlnginaaGreatDoor
namespace Go.Proofs.YtehgmmbdlnginaaGreatDoor
open Go.RowKit Go.WideShapes Go.ChangeShapes
namespace LP
end LP
end Go.Proofs.YtehgmmbdlnginaaGreatDoor
namespace Go.Proofs.YtehgmmbdlnginaaGreatDoor
open Go.RowKit Go.Maps
namespace NW
section
variable {w:World} {g:Nat} {S:List Nat} {L:List ByteArray} {mv sv:Value}
end
end NW
end Go.Proofs.YtehgmmbdlnginaaGreatDoor
namespace Go.Proofs.YtehgmmbdlnginaaGreatDoor
open Go.RowKit Go.Maps
namespace NW
theorem eq_yes {a b:ByteArray} (h:a=b):(a.toList == b.toList)=true:=by subst h;simp
theorem eq_no {a b:ByteArray} (h:a≠b):(a.toList == b.toList)=false:=by
  rw [beq_eq_false_iff_ne];intro e;rw [Lib.toList_data,Lib.toList_data] at e;exact h (ByteArray.ext (Array.toList_inj.1 e))
def Miss (L:List ByteArray) (s:ByteArray) (k:Nat):Prop:=∀ j,j < k→L[j]?≠some s
theorem Miss.step {L:List ByteArray} {s:ByteArray} {k:Nat} (h:Miss L s k) (hk:k < L.length) (e:L[k]≠s):Miss L s (k+1):=by
  intro j hj;by_cases hjk:j=k
  · subst hjk;rw [List.getElem?_eq_getElem hk];simpa using e
  · exact h j (by omega)
theorem Miss.found {L:List ByteArray} {s:ByteArray} {k:Nat} (h:Miss L s k) (hk:k < L.length) (e:L[k]=s):NP.findI L s=k∧NP.findB L s=true:=by
  have hm:s∈L:=by rw [← e];exact List.getElem_mem _
  refine ⟨?_,NP.findB_yes hm⟩
  rw [NP.findI_yes hm];have h1:L.idxOf s < L.length:=List.idxOf_lt_length_iff.2 hm;have h2:L[L.idxOf s]? = some s:=by rw [List.getElem?_eq_getElem h1];simp
  have h3:¬ L.idxOf s < k:=fun hl=>h _ hl h2
  have h4:L.idxOf s≤k:=by
    rcases Nat.lt_or_ge k (L.idxOf s) with h5 | h5
    · have:=List.not_of_lt_findIdx (p:=(· == s)) (xs:=L) (i:=k) h5;rw [e] at this;simp at this
    · exact h5
  omega
theorem Miss.none_ {L:List ByteArray} {s:ByteArray} (h:Miss L s L.length):NP.findI L s=0∧NP.findB L s=false:=by
  have hm:s∉L:=by
    intro hm;obtain ⟨j,hj,e⟩:=List.mem_iff_getElem.1 hm;exact h j hj (by rw [List.getElem?_eq_getElem hj,e])
  exact ⟨NP.findI_no hm,NP.findB_no hm⟩
def RF (L:List ByteArray) (s:ByteArray) (i:Value):Prop:=∃ k:Nat,k≤L.length∧i = .int .i64 (k:Int)∧Hid (Miss L s k)
section
variable {w:World} {L:List ByteArray} {v:Value} {base:Nat}
set_option maxHeartbeats 1000000 in
theorem rfind_any (h:w.ownsRow base 9 1 v L.length (strs L)) (s:ByteArray) (hm:L.length≤4096):Calls Tryz.prog 150 #[v,.string s] w fun e w'=>e = .returned (.tuple #[.int .i64 (NP.findI L s),.bool (NP.findB L s)])∧w=w':=by
  obtain ⟨A,c,rfl,_,hc1,hc2,hsrc,_⟩:=MO.form h;unfold maxLen at hc2;have H:=Lib.hid hsrc;clear hsrc h;go_enter Tryz.func150,Tryz.ntmps150
  go_wp2
  go_loop [6] (fun i=>RF L s i) (fun i=>L.length - (intOf i).toNat)
  case atStart=>exact ⟨0,by omega,rfl,Lib.hid (fun j hj=>absurd hj (by omega))⟩
  case round =>
    obtain ⟨k,hk,rfl,hmiss⟩:=hrel;by_cases hlt:k < L.length
    · obtain ⟨ad,rfl,_,_,hc⟩:=H.out [] (by simp) (by simp [strs];omega);obtain ⟨b,off,spot⟩:=ad;obtain ⟨t,ht⟩:∃ t,t=L[k]:=⟨_,rfl⟩
      obtain rfl:spot=none:=by
        have h1:=hc 0 (.string (L[0]'(by omega))) (by simp [strs,List.getElem?_eq_getElem (show 0 < L.length by omega)]);rw [show (⟨b,off,spot⟩:Addr).add 0=⟨b,off,spot⟩ from by simp [Addr.add]] at h1;exact World.cell?_spot h1
      have c0:=hc k (.string t) (by simp [strs,hlt,ht]);rw [show (⟨b,off,none⟩:Addr).add k=⟨b,off+k,none⟩ from by unfold Addr.add;split;(rename_i h0;subst h0;rfl);rfl] at c0;have HT:=Lib.hid ht;clear hc ht;by_cases e:t=s
      · have e1:=eq_yes e;obtain ⟨f1,f2⟩:=hmiss.out.found hlt (by rw [← HT.out];exact e);have F:=Lib.hid (And.intro f1 f2);clear e f1 f2;go_wp2;go_ret2
        rw [F.out.1,F.out.2];exact ⟨rfl,rfl⟩
      · have e1:=eq_no e;have HE:=Lib.hid e;clear e;go_wp2
        go_round
        case rel=>exact ⟨k+1,by omega,by go_num,Lib.hid (hmiss.out.step hlt (by rw [← HT.out];exact HE.out))⟩
        case measure=>simp [intOf];omega
    · obtain rfl:k=L.length:=by omega
      have F:=Lib.hid hmiss.out.none_;go_wp2;go_ret2
      rw [F.out.1,F.out.2];exact ⟨rfl,rfl⟩
def Rn (a:World) (base:Nat) (T:List ByteArray) (v:Value) (w:World):Prop:=w.ownsRow base 9 1 v T.length (strs T)∧MM.Far [] a w
set_option maxHeartbeats 1000000 in
theorem rput_any (h:w.ownsRow base 9 1 v L.length (strs L)) (s:ByteArray) (hm:L.length≤4096) (hs:s.size≤maxLen) (hb:base≤w.heap.size):Calls Tryz.prog 132 #[v,.string s] w fun e w' =>
    ∃ v',e = .returned (.tuple #[v',.int .i64 (NP.putI L s),.int .i64 (NP.putE L s)])∧Rn w base (NP.putL L s) v' w'∧∀ b,v'.ownBlock=some b→v.ownBlock=some b∨w.heap.size≤b:=by
  unfold maxLen at hs;by_cases hf:NP.fits s
  · obtain ⟨A,c,rfl,hA,hc1,hc2,hsrc,_⟩:=MO.form h;unfold maxLen at hc2;have H:=Lib.hid h;by_cases hL:s∈L
    · have e1:NP.putI L s=NP.findI L s:=by simp [NP.putI,hf,hL,NP.findI_yes hL]
      have e2:NP.putE L s=0:=by simp [NP.putE,hf,hL]
      have e3:NP.putL L s=L:=by simp [NP.putL,hL]
      have HB:=Lib.hid (NP.findB_yes hL);rw [e1,e2,e3];obtain ⟨g1,g2⟩:=hf;clear h hsrc hL e1 e2 e3 hA;go_enter Tryz.func132,Tryz.ntmps132
      go_wp2_with (go_at_call 150;refine (rfind_any H.out s hm).mono ?_;rintro e w' ⟨rfl,rfl⟩;rw [HB.out])
      refine bodyPost_ret (results_tmp3 rfl _ _ _) rfl ?_
      exact ⟨_,rfl,⟨H.out,MM.Far.refl _ _⟩,fun b hb=>.inl hb⟩
    · have HB:=Lib.hid (NP.findB_no hL);by_cases hn:L.length < 4096
      · have e1:NP.putI L s=(L.length:Nat):=by simp [NP.putI,hf,hL,hn]
        have e2:NP.putE L s=0:=by simp [NP.putE,hf,hL,hn]
        have e3:NP.putL L s=L++[s]:=by simp [NP.putL,hf,hL,hn]
        rw [e1,e2,e3];have ht:decide ((4096:Int)≤(L.length:Int))=false:=by simp;omega
        obtain ⟨g1,g2⟩:=hf;have HA:=Lib.hid hA;have HSR:=Lib.hid (hsrc [] (by simp));clear h hL e1 e2 e3 hn hA hsrc;go_enter Tryz.func132,Tryz.ntmps132
        go_wp2_with (first
          | (go_at_call 150;refine (rfind_any H.out s hm).mono ?_;rintro e w' ⟨rfl,rfl⟩;rw [HB.out])
          | (at_builtin
             refine MO.wpList_append _ ?_ (.tmp 31) (.tmp 32) 35 ?_ base 9 (.string ⟨#[]⟩) 1 16 Tryz.underlying35 string_info rfl (by omega) _ 0 [] ?_ (MO.of_row (MM.Row.new w 9 []) hb rfl (by unfold maxLen;omega)) A L.length c (strs L) ?_ (by simp [strs]) ?_ [] ?_ (strs_one L) (by unfold maxLen;omega) (by omega) (by simp;omega) ?_
             · rfl
             · rfl
             · rfl
             · rfl
             · intro e;have:=HA.out e;omega
             · exact HSR.out.far ((MM.Far.refl [] w).alloc _) (by simp)
             intro v1 w1 o1 hg1 hl1)
          | (at_builtin
             refine MO.wpList_append _ ?_ (.tmp 33) (.tmp 35) 35 ?_ base 9 (.string ⟨#[]⟩) 1 16 Tryz.underlying35 string_info rfl (by omega) v1 (0+L.length) ([]++strs L) ?_ (o1.alloc _) (some ⟨w1.heap.size,0,none⟩) 1 1 [.string s] ?_ rfl (fun h=>by cases h) [] ?_ (strs_one [_]) (by unfold maxLen;omega) (by omega) ?_ ?_
             · rfl
             · rfl
             · rfl
             · rfl
             · exact MM.Src.row (MM.Row.new _ _ [.string s]) (by simp) _ (fun j u hu=>hu)
             · have:=hg1.size;simp at this ⊢;omega
             intro v2 w2 o2 hg2 hl2))
        refine bodyPost_ret (results_tmp3 rfl _ _ _) rfl ?_
        refine ⟨_,rfl,⟨?_,?_⟩,?_⟩
        · rw [List.length_append,List.length_singleton];simpa [strs] using o2
        · have k1:=hg1.size;have F1:MM.Far [] w w1:=((MM.Far.refl [] w).alloc _).trans (MM.Far.of_grown (S:=[w.heap.size]) hg1 (fun b hb _=>by simpa [Value.ownBlock,eq_comm] using hb)) (fun b hb hl=>by simp at hb;omega);refine (F1.alloc _).trans (MM.Far.of_grown (S:=v1.ownBlock.toList) hg2 (fun b hb _=>by simp [hb])) (fun b hb hl=>?_)
          have hb':v1.ownBlock=some b:=by simpa using hb
          rcases hl1 with e | e
          · rw [e] at hb';simp [Value.ownBlock] at hb';omega
          · rw [e] at hb';simp at hb';omega
        · intro b hb0;have hb:v2.ownBlock=some b:=hb0;have k1:=hg1.size;simp at k1
          right
          rcases hl2 with e | e
          · rw [e] at hb
            rcases hl1 with e' | e'
            · rw [e'] at hb;simp [Value.ownBlock] at hb;omega
            · rw [e'] at hb;simp at hb;omega
          · rw [e] at hb;simp at hb;omega
      · have e1:NP.putI L s=0:=by simp [NP.putI,hf,hL,hn]
        have e2:NP.putE L s=3:=by simp [NP.putE,hf,hL,hn]
        have e3:NP.putL L s=L:=by simp [NP.putL,hn]
        rw [e1,e2,e3];have ht:decide ((4096:Int)≤(L.length:Int))=true:=by simp;omega
        obtain ⟨g1,g2⟩:=hf;clear h hsrc hL e1 e2 e3 hn hA;go_enter Tryz.func132,Tryz.ntmps132
        go_wp2_with (go_at_call 150;refine (rfind_any H.out s hm).mono ?_;rintro e w' ⟨rfl,rfl⟩;rw [HB.out])
        refine bodyPost_ret (results_tmp3 rfl _ _ _) rfl ?_
        exact ⟨_,rfl,⟨H.out,MM.Far.refl _ _⟩,fun b hb=>.inl hb⟩
  · have e1:NP.putI L s=0:=by simp [NP.putI,hf]
    have e2:NP.putE L s=1:=by simp [NP.putE,hf]
    have e3:NP.putL L s=L:=by simp [NP.putL,hf]
    rw [e1,e2,e3];have hc:s.size < 1∨32 < s.size:=by unfold NP.fits at hf;omega
    have H:=Lib.hid h;clear hf e1 e2 e3 h;by_cases h1:s.size < 1
    · clear hc;go_enter Tryz.func132,Tryz.ntmps132
      go_wp2;refine bodyPost_ret (results_tmp3 rfl _ _ _) rfl ?_
      exact ⟨_,rfl,⟨H.out,MM.Far.refl _ _⟩,fun b hb=>.inl hb⟩
    · have h2:32 < s.size:=by omega
      clear hc;go_enter Tryz.func132,Tryz.ntmps132
      go_wp2;refine bodyPost_ret (results_tmp3 rfl _ _ _) rfl ?_
      exact ⟨_,rfl,⟨H.out,MM.Far.refl _ _⟩,fun b hb=>.inl hb⟩
end
end NW
end Go.Proofs.YtehgmmbdlnginaaGreatDoor
namespace Go.Proofs.YtehgmmbdlnginaaGreatDoor
namespace SC
open LX RX SX EX
structure Rf where
  kind:Int
  at_:Int
  n:Int
  a:Int
  s:ByteArray
  w:Int
  l:List Nat
abbrev Rws:=List (List ByteArray)
inductive Sp where
  | form (i:Nat)
  | qd (a:Int) (i:Nat)
  | ql (a:Int) (l:List Nat)
inductive Sn where
  | bad (a e:Int)
  | mk (f:Rf) (R:Rws) (ps:List Sp)
def fm0:Fm:=⟨0,0,0,emp,[],[]⟩
def fmAt (fs:List Fm) (i:Nat):Fm:=fs.getD i fm0
def primN:List ByteArray:=[⟨#[43]⟩,⟨#[45]⟩,⟨#[42]⟩,⟨#[113,117,111,116,105,101,110,116]⟩,⟨#[114,101,109,97,105,110,100,101,114]⟩,⟨#[60]⟩,⟨#[61]⟩,⟨#[101,113,63]⟩,⟨#[110,111,116]⟩,⟨#[110,117,108,108,63]⟩,
  ⟨#[112,97,105,114,63]⟩,⟨#[99,111,110,115]⟩,⟨#[99,97,114]⟩,⟨#[99,100,114]⟩,⟨#[110,117,109,98,101,114,63]⟩,⟨#[115,121,109,98,111,108,63]⟩,⟨#[112,114,111,99,101,100,117,114,101,63]⟩,⟨#[99,97,108,108,47,99,99]⟩,
  ⟨#[111,117,116]⟩,⟨#[115,112,97,119,110]⟩,⟨#[109,105,99,114,111]⟩,⟨#[97,102,116,101,114]⟩,⟨#[99,97,110,99,101,108]⟩,⟨#[112,114,111,109,105,115,101]⟩,⟨#[115,101,116,116,108,101]⟩,⟨#[116,104,101,110]⟩,⟨#[115,116,114,101,97,109]⟩,⟨#[119,114,105,116,101]⟩,⟨#[114,101,97,100]⟩,⟨#[116,105,109,101]⟩]
def primM:List Nat:=[2,2,2,2,2,2,2,2,1,1,1,2,1,1,1,1,1,1,1,1,1,2,1,0,2,2,1,2,1,0]
def isPrim (s:ByteArray):Bool:=decide (s∈primN)
def primO (s:ByteArray):Nat:=if s∈primN then primN.idxOf s+1 else 0
def primK (s:ByteArray):Nat:=if s∈primN then primM.getD (primN.idxOf s) 0 else 0
def wher:Rws→ByteArray→Option (Nat × Nat)
  | [],_=>none
  | r::rs,s=>if s∈r then some (0,r.idxOf s) else match wher rs s with
    | none=>none
    | some (a,n)=>some (a+1,n)
structure Cx where
  ns:List Nd
  fs:List Fm
  own:List ByteArray
def cst (a w:Int):Rf:=⟨13,a,0,0,emp,w,[]⟩
def quoL (R:Rws) (a:Int):List Nat→Sn
  | []=>.mk (cst a 2) R []
  | i::l=>.mk ⟨12,a,12,0,emp,0,[]⟩ R [.qd a i,.ql a l]
def quo (ns:List Nd) (R:Rws) (N:List ByteArray) (a:Int) (i:Nat):Sn × List ByteArray :=
  if (ndAt ns i).kind=1 then (.mk (cst a (WP.intW (ndAt ns i).n)) R [],N)
  else if (ndAt ns i).kind=2 then (.mk (cst a (WP.boolW (decide ((ndAt ns i).n=1)))) R [],N)
  else if (ndAt ns i).kind=3 then (.mk (cst a (WP.ofW 3 (NP.putI N (ndAt ns i).s))) R [],NP.putL N (ndAt ns i).s)
  else (quoL R a (ndAt ns i).l,N)
def noName (s:ByteArray):Int:=if isPrim s=true then 90 else 91
def nameP (C:Cx) (R:Rws) (N:List ByteArray) (f:Fm):Sn × List ByteArray:=match wher R f.s with
  | some (a,n)=>(.mk ⟨11,f.at_,n,a,emp,0,[]⟩ R [],N)
  | none=>if f.s∈C.own then (.mk ⟨4,f.at_,NP.putI N f.s,0,f.s,0,[]⟩ R [],NP.putL N f.s) else (.bad f.at_ (noName f.s),N)
def setP' (C:Cx) (R:Rws) (N:List ByteArray) (f:Fm):Sn × List ByteArray:=match wher R f.s with
  | some (a,n)=>(.mk ⟨7,f.at_,n,a,emp,0,[]⟩ R (f.l.map .form),N)
  | none=>if f.s∈C.own then (.mk ⟨7,f.at_,NP.putI N f.s,-1,f.s,0,[]⟩ R (f.l.map .form),NP.putL N f.s) else (.bad f.at_ (noName f.s),N)
def defP (R:Rws) (N:List ByteArray) (f:Fm):Sn × List ByteArray :=
  if isPrim f.s=true then (.bad f.at_ 90,N) else (.mk ⟨9,f.at_,NP.putI N f.s,0,f.s,0,[]⟩ R (f.l.map .form),NP.putL N f.s)
def callsPrim (C:Cx) (R:Rws) (f:Fm):Bool:=decide (f.kind=4) && !decide (f.s∈C.own) && (wher R f.s).isNone && isPrim f.s
def callP (C:Cx) (R:Rws) (f:Fm):Sn :=
  if callsPrim C R (fmAt C.fs (f.l.getD 0 0))=true then
    (if f.l.length - 1≠primK (fmAt C.fs (f.l.getD 0 0)).s then .bad f.at_ 90 else .mk ⟨12,f.at_,primO (fmAt C.fs (f.l.getD 0 0)).s,0,emp,0,[]⟩ R ((f.l.drop 1).map .form))
  else .mk ⟨10,f.at_,0,0,emp,0,[]⟩ R (f.l.map .form)
def evF (C:Cx) (R:Rws) (N:List ByteArray) (f:Fm):Sn × List ByteArray :=
  if f.kind=1 then (.mk (cst f.at_ (WP.intW f.n)) R [],N)
  else if f.kind=2 then (.mk (cst f.at_ (WP.boolW (decide (f.n=1)))) R [],N)
  else if f.kind=3 then quo C.ns R N f.at_ f.n.toNat
  else if f.kind=4 then nameP C R N f
  else if f.kind=6 then (.mk ⟨6,f.at_,f.p.length,0,emp,0,[]⟩ (f.p::R) (f.l.map .form),N)
  else if f.kind=7 then setP' C R N f
  else if f.kind=9 then defP R N f
  else if f.kind=10 then (callP C R f,N)
  else (.mk ⟨f.kind,f.at_,0,0,emp,0,[]⟩ R (f.l.map .form),N)
def evS (C:Cx) (R:Rws) (N:List ByteArray):Sp→Sn × List ByteArray
  | .form i=>evF C R N (fmAt C.fs i)
  | .qd a i=>quo C.ns R N a i
  | .ql a l=>(quoL R a l,N)
abbrev Er:=Int × Int × List ByteArray
abbrev Out:=Except Er (List ByteArray × List Rf × Nat)
def execs (X:Sp→List ByteArray→List Rf→Out):List Sp→List ByteArray→List Rf→List Nat→Except Er (List ByteArray × List Rf × List Nat)
  | [],N,row,l=>.ok (N,row,l)
  | p::ps,N,row,l=>match X p N row with
    | .error e=>.error e
    | .ok (N',row',i)=>execs X ps N' row' (l++[i])
def onS (X:Rws→Sp→List ByteArray→List Rf→Out) (y:Sn × List ByteArray) (row:List Rf):Out:=match y.1 with
  | .bad a e=>.error (a,e,y.2)
  | .mk f R ps=>match execs (X R) ps y.2 row [] with
    | .error e=>.error e
    | .ok (N',row',l)=>.ok (N',row'++[{ f with l:=l }],row'.length)
def ex (C:Cx):Nat→Rws→Sp→List ByteArray→List Rf→Out
  | 0,_,_,N,_=>.error (-1,0,N)
  | f+1,R,p,N,row=>onS (ex C f) (evS C R N p) row
def exTops (C:Cx) (f:Nat):List Nat→List ByteArray→List Rf→List Nat→Except Er (List ByteArray × List Rf × List Nat)
  | [],N,row,t=>.ok (N,row,t)
  | i::l,N,row,t=>match ex C f [] (.form i) N row with
    | .error e=>.error e
    | .ok (N',row',k)=>exTops C f l N' row' (t++[k])
def ownN (fs:List Fm):List ByteArray:=(fs.filter fun f=>f.kind == 9).map (·.s)
def cx (ns:List Nd) (fs:List Fm):Cx:=⟨ns,fs,ownN fs⟩
structure Fw (C:Cx):Prop where
  ok:Ok C.ns
  lt:∀ i,∀ p∈(fmAt C.fs i).l,p < i
def fsz (C:Cx):Nat→Nat→Nat
  | 0,_=>1
  | f+1,i=>1+((fmAt C.fs i).l.map (fsz C f)).sum+(if (fmAt C.fs i).kind=3 then 2*T C.ns (fmAt C.fs i).n.toNat else 0)
def F (C:Cx) (i:Nat):Nat:=fsz C (i+1) i
theorem fsz_eq {C:Cx} (h:Fw C):∀ (f g i:Nat),i < f→i < g→fsz C f i=fsz C g i:=by
  intro f;induction f with
  | zero=>intro g i hf _;omega
  | succ f ih =>
    intro g i hf hg;cases g with
    | zero=>omega
    | succ g =>
      have hl:=h.lt i;unfold fsz;rw [List.map_congr_left (fun p hp=>by
        have:=hl p hp;exact ih g p (by omega) (by omega))]
theorem F_eq {C:Cx} (h:Fw C) (i:Nat):F C i=1+((fmAt C.fs i).l.map (F C)).sum+(if (fmAt C.fs i).kind=3 then 2*T C.ns (fmAt C.fs i).n.toNat else 0):=by
  have hl:=h.lt i;unfold F;rw [fsz,List.map_congr_left (fun p hp=>by
    have:=hl p hp;exact fsz_eq h i (p+1) p (by omega) (by omega))]
def wgt (C:Cx):Sp→Nat
  | .form i=>F C i
  | .qd _ i=>2*T C.ns i - 1
  | .ql _ l=>1+(l.map fun i=>2*T C.ns i).sum
def wgts (C:Cx) (ps:List Sp):Nat:=(ps.map (wgt C)).sum
def wgn (C:Cx):Sn→Nat
  | .bad _ _=>1
  | .mk _ _ ps=>1+wgts C ps
theorem wgts_cons (C:Cx) (p:Sp) (ps:List Sp):wgts C (p::ps)=wgt C p+wgts C ps:=by simp [wgts]
theorem wgts_nil (C:Cx):wgts C []=0:=rfl
theorem F_pos (C:Cx) (i:Nat):1≤F C i:=by unfold F fsz;omega
theorem wgt_pos (C:Cx) (p:Sp):1≤wgt C p:=by
  cases p with
  | form i=>exact F_pos C i
  | qd a i=>have:=T_pos C.ns i;simp only [wgt];omega
  | ql a l=>simp only [wgt];omega
theorem wgts_form (C:Cx) (l:List Nat):wgts C (l.map .form)=(l.map (F C)).sum:=by
  unfold wgts;rw [List.map_map];rfl
theorem quoL_w (C:Cx) (R:Rws) (a:Int) (l:List Nat):wgn C (quoL R a l)≤1+(l.map fun i=>2*T C.ns i).sum:=by
  cases l with
  | nil=>simp [quoL,wgn,wgts]
  | cons i l =>
    have:=T_pos C.ns i;simp only [quoL,wgn,wgts_cons,wgts_nil,wgt,List.map_cons,List.sum_cons]
    omega
theorem sum_two (l:List Nat) (f:Nat→Nat):(l.map fun i=>2*f i).sum=2*(l.map f).sum:=by
  induction l with
  | nil=>rfl
  | cons a l ih=>simp only [List.map_cons,List.sum_cons,ih];omega
theorem T_kids {ns:List Nd} (h:Ok ns) (i:Nat):T ns i=1+((ndAt ns i).l.map (T ns)).sum:=by
  by_cases hi:i < ns.length
  · exact T_eq h hi
  · unfold T tsz;rw [nd_out hi];rfl
theorem wgn_nil (C:Cx) (f:Rf) (R:Rws):wgn C (.mk f R [])=1:=rfl
theorem quo_w {C:Cx} (h:Fw C) (R:Rws) (N:List ByteArray) (a:Int) (i:Nat):wgn C (quo C.ns R N a i).1≤2*T C.ns i - 1:=by
  have hp:=T_pos C.ns i;unfold quo;split
  · simp only [wgn_nil];omega
  · split
    · simp only [wgn_nil];omega
    · split
      · simp only [wgn_nil];omega
      · have:=quoL_w C R a (ndAt C.ns i).l;rw [sum_two] at this;rw [T_kids h.ok i];simp only;omega
theorem sum_drop (l:List Nat) (f:Nat→Nat):((l.drop 1).map f).sum≤(l.map f).sum:=by
  cases l with
  | nil=>exact Nat.le_refl _
  | cons a l=>simp
theorem ev_wg {C:Cx} (h:Fw C) (R:Rws) (N:List ByteArray) (p:Sp):wgn C (evS C R N p).1≤wgt C p:=by
  cases p with
  | qd a i=>exact quo_w h R N a i
  | ql a l=>exact quoL_w C R a l
  | form i =>
    show wgn C (evF C R N (fmAt C.fs i)).1≤F C i
    have hF:=F_eq h i;have hpos:=F_pos C i;generalize fmAt C.fs i=f at hF ⊢;have hall:∀ (g:Rf) (R':Rws),wgn C (.mk g R' (f.l.map .form))≤F C i:=fun g R'=>by
      simp only [wgn,wgts_form];omega
    unfold evF;split
    · exact hpos
    split
    · exact hpos
    split
    · rename_i h3;have:=quo_w h R N f.at_ f.n.toNat;rw [if_pos h3] at hF;omega
    split
    · unfold nameP;split
      · exact hpos
      · split <;> exact hpos
    split
    · exact hall _ _
    split
    · unfold setP';split
      · exact hall _ _
      · split
        · exact hall _ _
        · exact hpos
    split
    · unfold defP;split
      · exact hpos
      · exact hall _ _
    split
    · show wgn C (callP C R f)≤_
      unfold callP;split
      · split
        · exact hpos
        · simp only [wgn,wgts_form]
          have:=sum_drop f.l (F C);omega
      · exact hall _ _
    · exact hall _ _
theorem ex_same {C:Cx} (h:Fw C):∀ (f g:Nat) (p:Sp),wgt C p≤f→wgt C p≤g→∀ R N row,ex C f R p N row=ex C g R p N row:=by
  intro f;induction f with
  | zero=>intro g p hf _;have:=wgt_pos C p;omega
  | succ f ih =>
    intro g p hf hg R N row;cases g with
    | zero=>have:=wgt_pos C p;omega
    | succ g =>
      have hw:=ev_wg h R N p;unfold ex;generalize evS C R N p=y at hw;obtain ⟨pl,N1⟩:=y;cases pl with
      | bad a e=>rfl
      | mk fm R1 ps =>
        simp only [wgn] at hw
        have hps:∀ (ps:List Sp),wgts C ps≤f→wgts C ps≤g→∀ N row l,execs (ex C f R1) ps N row l=execs (ex C g R1) ps N row l:=by
          intro ps;induction ps with
          | nil=>intro _ _ N row l;rfl
          | cons q ps ihp =>
            intro h1 h2 N row l;rw [wgts_cons] at h1 h2;unfold execs;rw [ih g q (by omega) (by omega) R1 N row];split
            · rfl
            · exact ihp (by omega) (by omega) _ _ _
        simp only [onS]
        rw [hps ps (by omega) (by omega) _ _ []]
def sx (C:Cx) (R:Rws) (p:Sp) (N:List ByteArray) (row:List Rf):Out:=ex C (wgt C p) R p N row
theorem sx_ex {C:Cx} (h:Fw C) {f:Nat} {p:Sp} (hf:wgt C p≤f) (R:Rws) (N:List ByteArray) (row:List Rf):ex C f R p N row=sx C R p N row:=ex_same h f _ p hf (Nat.le_refl _) R N row
theorem execs_same {X Y:Sp→List ByteArray→List Rf→Out}:∀ (ps:List Sp),(∀ p∈ps,∀ N row,X p N row=Y p N row)→∀ N row l,execs X ps N row l=execs Y ps N row l:=by
  intro ps;induction ps with
  | nil=>intro _ N row l;rfl
  | cons p ps ih =>
    intro h N row l;unfold execs;rw [h p (List.mem_cons_self ..)];split
    · rfl
    · exact ih (fun q hq=>h q (List.mem_cons_of_mem _ hq)) _ _ _
theorem wgts_mem {C:Cx} {p:Sp} {ps:List Sp} (h:p∈ps):wgt C p≤wgts C ps:=by
  induction ps with
  | nil=>cases h
  | cons q ps ih =>
    rw [wgts_cons]
    rcases List.mem_cons.1 h with rfl | h
    · omega
    · have:=ih h;omega
theorem sx_eq {C:Cx} (h:Fw C) (R:Rws) (p:Sp) (N:List ByteArray) (row:List Rf):sx C R p N row=onS (sx C) (evS C R N p) row:=by
  have hw:=ev_wg h R N p;have hp:=wgt_pos C p;obtain ⟨f,hf⟩:∃ f,wgt C p=f+1:=⟨wgt C p - 1,by omega⟩
  unfold sx;rw [hf,ex];rw [hf] at hw;generalize evS C R N p=y at hw;obtain ⟨pl,N1⟩:=y;cases pl with
  | bad a e=>rfl
  | mk fm R1 ps =>
    simp only [wgn] at hw
    simp only [onS]
    rw [execs_same (X:=ex C f R1) (Y:=sx C R1) ps (fun q hq N row=>sx_ex h (by have:=wgts_mem (C:=C) hq;omega) R1 N row)];rfl
theorem execs_cons (X:Sp→List ByteArray→List Rf→Out) (p:Sp) (ps:List Sp) (N:List ByteArray) (row:List Rf) (l:List Nat):execs X (p::ps) N row l=match X p N row with
    | .error e=>.error e
    | .ok (N',row',i)=>execs X ps N' row' (l++[i]):=rfl
def tops (C:Cx):List Nat→List ByteArray→List Rf→List Nat→Except Er (List ByteArray × List Rf × List Nat)
  | [],N,row,t=>.ok (N,row,t)
  | i::l,N,row,t=>match sx C [] (.form i) N row with
    | .error e=>.error e
    | .ok (N',row',k)=>tops C l N' row' (t++[k])
def scope (ns:List Nd) (fs:List Fm) (ts:List Nat):Except Er (List ByteArray × List Rf × List Nat):=tops (cx ns fs) ts [] [] []
end SC
end Go.Proofs.YtehgmmbdlnginaaGreatDoor
