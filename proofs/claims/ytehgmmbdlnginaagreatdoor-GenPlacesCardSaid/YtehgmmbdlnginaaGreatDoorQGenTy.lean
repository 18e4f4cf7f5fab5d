/-
  Several texts in one: GenPlain,GenMach,GenTy.
-/
import Derived.Test.YtehgmmbdlnginaaGreatDoorQGenTab
import Derived.Test.YtehgmmbdlnginaaGreatDoorQScoKd
namespace Go.Proofs.YtehgmmbdlnginaaGreatDoor
namespace GP
open KP SC
def ki (op a b w:Int):Ki:=⟨op,a,b,w⟩
abbrev Cd:=List Ki × List Kb
abbrev Gn:=Nat→Bool→Nat→Nat→Cd
def endK (e:Bool):List Ki:=if e=true then [ki 16 0 0 0] else []
def gIf (G:Gn) (l:List Nat) (e:Bool) (p nb:Nat):Cd :=
  let x:=G (l.getD 0 0) false p nb
  let y:=G (l.getD 1 0) e (p+x.1.length+1) (nb+x.2.length)
  let p2:=p+x.1.length+1+y.1.length+(if e=true then 0 else 1)
  let z:=G (l.getD 2 0) e p2 (nb+x.2.length+y.2.length)
  (x.1++(ki 9 p2 0 0::(y.1++((if e=true then [] else [ki 8 (p2+z.1.length:Nat) 0 0])++z.1))),x.2++(y.2++z.2))
def gPush (G:Gn):List Nat→Nat→Nat→Cd
  | [],_,_=>([],[])
  | i::l,p,nb =>
    let x:=G i false p nb
    let y:=gPush G l (p+x.1.length+1) (nb+x.2.length)
    (x.1++(ki 7 0 0 0::y.1),x.2++y.2)
def gSeq (G:Gn) (e:Bool):List Nat→Nat→Nat→Cd
  | [],_,_=>(ki 1 0 0 26::endK e,[])
  | [i],p,nb=>G i e p nb
  | i::j::l,p,nb =>
    let x:=G i false p nb
    let y:=gSeq G e (j::l) (p+x.1.length) (nb+x.2.length)
    (x.1++y.1,x.2++y.2)
def leafK (f:Rf):Ki:=if f.kind=11 then ki 2 f.a f.n 0 else if f.kind=4 then ki 3 f.n 0 0 else ki 1 0 0 f.w
def setK (f:Rf):Ki:=if f.kind=9 then ki 6 f.n 0 0 else if f.a < 0 then ki 5 f.n 0 0 else ki 4 f.a f.n 0
def gForm (G:Gn) (f:Rf) (e:Bool) (p nb:Nat):Cd :=
  if f.kind=5 then gIf G f.l e p nb
  else if f.kind=6 then
    let b:=G (f.l.getD 0 0) true 0 (nb+1)
    (ki 10 nb 0 0::endK e,⟨f.n,b.1⟩::b.2)
  else if f.kind=7∨f.kind=9 then
    let x:=G (f.l.getD 0 0) false p nb
    (x.1++(setK f::endK e),x.2)
  else if f.kind=8 then gSeq G e f.l p nb
  else if f.kind=10 then
    let x:=gPush G (f.l.drop 1) p nb
    let y:=G (f.l.getD 0 0) false (p+x.1.length) (nb+x.2.length)
    (x.1++(y.1++[ki (if e=true then 13 else 12) (f.l.length - 1:Nat) 0 0]),x.2++y.2)
  else if f.kind=12 then
    if f.n=18 then
      let x:=G (f.l.getD 0 0) false p nb
      (x.1++[ki (if e=true then 15 else 14) 0 0 0],x.2)
    else
      let x:=gPush G f.l p nb
      (x.1++(ki 11 f.n f.l.length 0::endK e),x.2)
  else (leafK f::endK e,[])
def gF (row:List Rf):Nat→Gn
  | 0,_,_,_,_=>([],[])
  | n+1,i,e,p,nb=>gForm (gF row n) (rfAt row i) e p nb
def genB (row:List Rf) (tops:List Nat):List Kb:=⟨0,(gSeq (gF row row.length) true tops 0 1).1⟩::(gSeq (gF row row.length) true tops 0 1).2
def Tp (N:Nat) (dp:Nat→Nat) (p:Nat) (c:List Ki):Prop:=∀ (k:Nat) (x:Ki),c[k]? = some x →
  0≤pops x∧pops x≤dp (p+k)∧(∀ s∈succs ((p+k:Nat):Int) x,((p+k:Nat):Int) < s∧s < N∧(dp s.toNat:Int)=dp (p+k) - pops x+pushes x)∧(x.op=13∨x.op=15∨x.op=16→(dp (p+k):Int)=pops x)
def Rc (p:Nat) (c:List Ki) (q:Nat):Prop:=∃ (k:Nat) (x:Ki),c[k]? = some x∧p+k < q∧((q:Nat):Int)∈succs ((p+k:Nat):Int) x
def Agree (ds:List Nat) (dp:Nat→Nat) (p:Nat):Prop:=∀ (k d:Nat),ds[k]? = some d→dp (p+k)=d
theorem Tp.app {N:Nat} {dp:Nat→Nat} {p:Nat} {a b:List Ki} (h:Tp N dp p a) (k:Tp N dp (p+a.length) b):Tp N dp p (a++b):=by
  intro j x hx;by_cases hj:j < a.length
  · rw [List.getElem?_append_left hj] at hx;exact h j x hx
  · rw [List.getElem?_append_right (by omega)] at hx;have:=k _ x hx;rw [show p+a.length+(j - a.length)=p+j by omega] at this;exact this
theorem Tp.cons {N:Nat} {dp:Nat→Nat} {p:Nat} {a:Ki} {b:List Ki} (h:Tp N dp p [a]) (k:Tp N dp (p+1) b):Tp N dp p (a::b):=Tp.app (a:=[a]) h k
theorem Rc.left {p q:Nat} {a:List Ki} (h:Rc p a q) (b:List Ki):Rc p (a++b) q:=by
  obtain ⟨k,x,h1,h2,h3⟩:=h;have hk:=(List.getElem?_eq_some_iff.1 h1).1;exact ⟨k,x,by rw [List.getElem?_append_left hk];exact h1,h2,h3⟩
theorem Rc.right {p q:Nat} {b:List Ki} (a:List Ki) (h:Rc (p+a.length) b q):Rc p (a++b) q:=by
  obtain ⟨k,x,h1,h2,h3⟩:=h;refine ⟨a.length+k,x,by rw [List.getElem?_append_right (by omega),Nat.add_sub_cancel_left];exact h1,by omega,?_⟩
  rw [show p+(a.length+k)=p+a.length+k by omega];exact h3
theorem Agree.left {a b:List Nat} {dp:Nat→Nat} {p:Nat} (h:Agree (a++b) dp p):Agree a dp p:=fun k d hk=>h k d (by
  have:=(List.getElem?_eq_some_iff.1 hk).1;rw [List.getElem?_append_left this];exact hk)
theorem Agree.right {a b:List Nat} {dp:Nat→Nat} {p:Nat} (h:Agree (a++b) dp p):Agree b dp (p+a.length):=fun k d hk=>by
  have:=h (a.length+k) d (by rw [List.getElem?_append_right (by omega),Nat.add_sub_cancel_left];exact hk);rw [show p+a.length+k=p+(a.length+k) by omega];exact this
def isEnd (x:Ki):Prop:=x.op=13∨x.op=15∨x.op=16
structure Wl (T:Int) (x:Ki):Prop where
  w:whole x=true
  f:x.op=10→0 < x.a∧x.a < T
  p:x.op=11→arity x.a=some x.b
structure Fg (T:Int) (c:List Ki) (p D:Nat) (o:Option Nat):Prop where
  ty:∃ ds:List Nat,ds.length=c.length∧ds[0]? = some D∧∀ (N:Nat) (dp:Nat→Nat),Agree ds dp p→(∀ D',o=some D'→dp (p+c.length)=D'∧p+c.length < N)→p+c.length≤N→Tp N dp p c
  rc:∀ q,p < q→q < p+c.length∨(q=p+c.length∧o≠none)→Rc p c q
  en:o=none→∃ a x,c=a++[x]∧isEnd x
  pl:∀ (k:Nat) (x:Ki),c[k]? = some x→x.op=9→∃ (j:Nat) (y:Ki),x.a=(p+j+1:Nat)∧k < j∧c[j]? = some y∧(y.op=8∨isEnd y)
  wl:∀ x∈c,Wl T x
theorem Fg.pos {T:Int} {c:List Ki} {p D:Nat} {o:Option Nat} (h:Fg T c p D o):0 < c.length:=by
  obtain ⟨ds,h1,h2,_⟩:=h.ty;have:=(List.getElem?_eq_some_iff.1 h2).1;omega
theorem Fg.app {T:Int} {a b:List Ki} {p D D1:Nat} {o:Option Nat} (h:Fg T a p D (some D1)) (k:Fg T b (p+a.length) D1 o):Fg T (a++b) p D o:=by
  have hp:=h.pos;have kp:=k.pos;obtain ⟨da,a1,a2,a3⟩:=h.ty;obtain ⟨db,b1,b2,b3⟩:=k.ty;refine ⟨⟨da++db,by simp [a1,b1],by rw [List.getElem?_append_left (by omega)];exact a2,fun N dp hA ho hN=>?_⟩,fun q hq hl=>?_,fun e=>?_,fun j x hx hop=>?_,fun x hx=>?_⟩
  · rw [List.length_append] at ho hN;have hR:=hA.right;rw [a1] at hR;refine (a3 N dp hA.left (fun D' e=>?_) (by omega)).app (b3 N dp hR (fun D' e=>?_) (by omega))
    · injection e with e;subst e;have:=hR 0 _ b2;rw [Nat.add_zero] at this;exact ⟨this,by omega⟩
    · have:=ho D' e;rw [← Nat.add_assoc] at this;exact this
  · rw [List.length_append] at hl;by_cases h1:q≤p+a.length
    · refine (h.rc q hq ?_).left b
      by_cases h2:q < p+a.length
      · exact .inl h2
      · exact .inr ⟨by omega,by simp⟩
    · refine (k.rc q (by omega) ?_).right a
      rcases hl with hl | hl
      · exact .inl (by omega)
      · exact .inr ⟨by omega,hl.2⟩
  · obtain ⟨c,x,e1,e2⟩:=k.en e;exact ⟨a++c,x,by rw [e1,List.append_assoc],e2⟩
  · by_cases hj:j < a.length
    · rw [List.getElem?_append_left hj] at hx;obtain ⟨i,y,e1,e2,e3,e4⟩:=h.pl j x hx hop;have:=(List.getElem?_eq_some_iff.1 e3).1;exact ⟨i,y,e1,e2,by rw [List.getElem?_append_left this];exact e3,e4⟩
    · rw [List.getElem?_append_right (by omega)] at hx;obtain ⟨i,y,e1,e2,e3,e4⟩:=k.pl _ x hx hop;exact ⟨a.length+i,y,by rw [e1];congr 1;omega,by omega,by rw [List.getElem?_append_right (by omega),Nat.add_sub_cancel_left];exact e3,e4⟩
  · rcases List.mem_append.1 hx with hx | hx
    · exact h.wl x hx
    · exact k.wl x hx
theorem Fg.one {T:Int} {x:Ki} {p D D':Nat} (hs:succs (p:Int) x=[(p:Int)+1]) (h0:0≤pops x) (h1:pops x≤D) (h2:(D':Int)=D - pops x+pushes x) (h3:¬ isEnd x) (h9:x.op≠9) (hw:Wl T x):Fg T [x] p D (some D'):=by
  refine ⟨⟨[D],rfl,rfl,fun N dp hA ho hN=>fun k y hy=>?_⟩,fun q hq hl=>?_,(fun e=>by cases e),fun k y hy hop=>?_,fun y hy=>by rw [List.mem_singleton.1 hy];exact hw⟩
  · have hk:k=0:=by have:=(List.getElem?_eq_some_iff.1 hy).1;simp at this;exact this
    subst hk;simp only [List.getElem?_cons_zero,Option.some.injEq] at hy
    subst hy;have hd:=hA 0 D rfl;obtain ⟨o1,o2⟩:=ho D' rfl;simp only [Nat.add_zero,List.length_singleton] at hd o1 o2 ⊢
    rw [hd];refine ⟨h0,h1,fun s hs2=>?_,fun e=>absurd e h3⟩
    rw [hs] at hs2;have hs3:s=(p:Int)+1:=by simpa using hs2
    subst hs3;refine ⟨by omega,by omega,?_⟩
    rw [show ((p:Int)+1).toNat=p+1 by omega,o1];exact h2
  · have hq1:q=p+1:=by simp at hl;omega
    subst hq1;exact ⟨0,x,rfl,by omega,by rw [Nat.add_zero,hs];simp⟩
  · have hk:k=0:=by have:=(List.getElem?_eq_some_iff.1 hy).1;simp at this;exact this
    subst hk;simp only [List.getElem?_cons_zero,Option.some.injEq] at hy
    subst hy;exact absurd hop h9
theorem Fg.end_ {T:Int} {x:Ki} {p D:Nat} (hs:succs (p:Int) x=[]) (h1:pops x=(D:Int)) (h3:isEnd x) (h9:x.op≠9) (hw:Wl T x):Fg T [x] p D none:=by
  refine ⟨⟨[D],rfl,rfl,fun N dp hA ho hN=>fun k y hy=>?_⟩,fun q hq hl=>?_,fun _=>⟨[],x,rfl,h3⟩,fun k y hy hop=>?_,fun y hy=>by rw [List.mem_singleton.1 hy];exact hw⟩
  · have hk:k=0:=by have:=(List.getElem?_eq_some_iff.1 hy).1;simp at this;exact this
    subst hk;simp only [List.getElem?_cons_zero,Option.some.injEq] at hy
    subst hy;have hd:=hA 0 D rfl;simp only [Nat.add_zero] at hd ⊢
    rw [hd];refine ⟨by omega,by omega,fun s hs2=>?_,fun _=>h1.symm⟩
    rw [hs] at hs2;cases hs2
  · simp at hl;omega
  · have hk:k=0:=by have:=(List.getElem?_eq_some_iff.1 hy).1;simp at this;exact this
    subst hk;simp only [List.getElem?_cons_zero,Option.some.injEq] at hy
    subst hy;exact absurd hop h9
end GP
end Go.Proofs.YtehgmmbdlnginaaGreatDoor
namespace Go.Proofs.YtehgmmbdlnginaaGreatDoor
namespace GP
open KP SC
inductive Stp where
  | put (b:Nat) (x:Ki)
  | leap (b:Nat) (op:Int) (k:Nat)
  | land (b k:Nat)
  | val (b i:Nat)
  | last (b i:Nat)
structure Gs where
  bs:List Kb
  bx:List Nat
def k0:Ki:=⟨0,0,0,0⟩
def blk (bs:List Kb) (b:Nat):Kb:=bs.getD b ⟨0,[]⟩
def lenB (bs:List Kb) (b:Nat):Nat:=(blk bs b).l.length
def app (bs:List Kb) (b:Nat) (c:List Ki):List Kb:=bs.set b ⟨(blk bs b).many,(blk bs b).l++c⟩
def landB (bs:List Kb) (b k:Nat):List Kb:=bs.set b ⟨(blk bs b).many,(blk bs b).l.set k { (blk bs b).l.getD k k0 with a:=((blk bs b).l.length:Nat) }⟩
def stE (e:Bool) (b i:Nat):Stp:=if e=true then .last b i else .val b i
def endS (e:Bool) (b:Nat):List Stp:=if e=true then [.put b (ki 16 0 0 0)] else []
def seqS (e:Bool) (b:Nat):List Nat→List Stp
  | []=>.put b (ki 1 0 0 26)::endS e b
  | [i]=>[stE e b i]
  | i::j::l=>.val b i::seqS e b (j::l)
def pushS (b:Nat):List Nat→List Stp
  | []=>[]
  | i::l=>.val b i :: .put b (ki 7 0 0 0)::pushS b l
def callS (b:Nat) (f:Rf) (op:Int):List Stp:=pushS b (f.l.drop 1)++[.val b (f.l.getD 0 0),.put b (ki op (f.l.length - 1:Nat) 0 0)]
def ccS (b:Nat) (f:Rf) (op:Int):List Stp:=[.val b (f.l.getD 0 0),.put b (ki op 0 0 0)]
def primS (b:Nat) (f:Rf):List Stp:=if f.n=18 then ccS b f 14 else pushS b f.l++[.put b (ki 11 f.n f.l.length 0)]
def ifS (b n:Nat) (f:Rf):List Stp:=[.val b (f.l.getD 0 0),.leap b 9 n,.val b (f.l.getD 1 0),.leap b 8 (n+1),.land b n,.val b (f.l.getD 2 0),.land b (n+1)]
def ifE (b n:Nat) (f:Rf):List Stp:=[.val b (f.l.getD 0 0),.leap b 9 n,.last b (f.l.getD 1 0),.land b n,.last b (f.l.getD 2 0)]
def valS (f:Rf) (b:Nat) (s:Gs):List Stp × Gs :=
  if f.kind=5 then (ifS b s.bx.length f,⟨s.bs,s.bx++[0,0]⟩)
  else if f.kind=6 then ([.put b (ki 10 s.bs.length 0 0),.last s.bs.length (f.l.getD 0 0)],⟨s.bs++[⟨f.n,[]⟩],s.bx⟩)
  else if f.kind=7∨f.kind=9 then ([.val b (f.l.getD 0 0),.put b (setK f)],s)
  else if f.kind=8 then (seqS false b f.l,s)
  else if f.kind=10 then (callS b f 12,s)
  else if f.kind=12 then (primS b f,s)
  else ([.put b (leafK f)],s)
def lastS (f:Rf) (b i:Nat) (s:Gs):List Stp × Gs :=
  if f.kind=5 then (ifE b s.bx.length f,⟨s.bs,s.bx++[0]⟩)
  else if f.kind=8 then (seqS true b f.l,s)
  else if f.kind=10 then (callS b f 13,s)
  else if f.kind=12∧f.n=18 then (ccS b f 15,s)
  else ([.val b i,.put b (ki 16 0 0 0)],s)
def stp (row:List Rf):Stp→Gs→List Stp × Gs
  | .put b x,s=>([],⟨app s.bs b [x],s.bx⟩)
  | .leap b op k,s=>([.put b (ki op 0 0 0)],⟨s.bs,s.bx.set k (lenB s.bs b)⟩)
  | .land b k,s=>([],⟨landB s.bs b (s.bx.getD k 0),s.bx⟩)
  | .val b i,s=>valS (rfAt row i) b s
  | .last b i,s=>lastS (rfAt row i) b i s
structure Fo (f:Rf):Prop where
  k5:f.kind=5→f.l.length=3
  k1:f.kind=6∨f.kind=7∨f.kind=9→f.l.length=1
  k10:f.kind=10→1≤f.l.length
  k18:f.kind=12→f.n=18→f.l.length=1
def okS (row:List Rf):Stp→Gs→Prop
  | .put b _,s=>b < s.bs.length
  | .leap b _ k,s=>b < s.bs.length∧k < s.bx.length
  | .land b k,s=>b < s.bs.length∧k < s.bx.length∧s.bx.getD k 0 < lenB s.bs b
  | .val b i,s=>b < s.bs.length∧i < row.length∧Fo (rfAt row i)
  | .last b i,s=>b < s.bs.length∧i < row.length∧Fo (rfAt row i)
inductive Go (row:List Rf):Nat→List Stp→Gs→Gs→Prop
  | done (s:Gs):Go row 0 [] s s
  | step {n:Nat} {x:Stp} {r:List Stp} {s F:Gs} (h:okS row x s) (k:Go row n ((stp row x s).1++r) (stp row x s).2 F):Go row (n+1) (x::r) s F
def Rn (row:List Rf) (n:Nat) (x:List Stp) (s s':Gs):Prop:=∀ m r F,Go row m r s' F→Go row (n+m) (x++r) s F
section
variable {row:List Rf}
theorem Rn.nil (s:Gs):Rn row 0 [] s s:=fun m r F h=>by rw [Nat.zero_add];exact h
theorem Rn.app {n m:Nat} {x y:List Stp} {s s1 s2:Gs} (h:Rn row n x s s1) (k:Rn row m y s1 s2):Rn row (n+m) (x++y) s s2:=fun j r F g=>by
  rw [Nat.add_assoc,List.append_assoc];exact h _ _ _ (k _ _ _ g)
theorem Rn.one {n:Nat} {x:Stp} {s s':Gs} (h:okS row x s) (k:Rn row n (stp row x s).1 (stp row x s).2 s'):Rn row (n+1) [x] s s':=fun j r F g=>by
  have:=Go.step (r:=r) h (k _ _ _ g);rw [show n+1+j=n+j+1 by omega];exact this
theorem Rn.cons {n m:Nat} {x:Stp} {y:List Stp} {s s1 s2:Gs} (h:Rn row n [x] s s1) (k:Rn row m y s1 s2):Rn row (n+m) (x::y) s s2:=Rn.app (x:=[x]) h k
theorem Go.len {n:Nat} {ws:List Stp} {s F:Gs} (h:Go row n ws s F):ws.length≤n:=by
  induction h with
  | done s=>exact Nat.le_refl _
  | step h k ih=>rw [List.length_append] at ih;rw [List.length_cons];omega
end
section
variable {bs X:List Kb} {b:Nat} {c d:List Ki}
theorem app_len (bs:List Kb) (b:Nat) (c:List Ki):(app bs b c).length=bs.length:=by unfold app;rw [List.length_set]
theorem land_len (bs:List Kb) (b k:Nat):(landB bs b k).length=bs.length:=by unfold landB;rw [List.length_set]
theorem blk_left (h:b < bs.length) (X:List Kb):blk (bs++X) b=blk bs b:=by
  unfold blk;rw [List.getD_eq_getElem?_getD,List.getD_eq_getElem?_getD,List.getElem?_append_left h]
theorem blk_set (h:b < bs.length) (x:Kb):blk (bs.set b x) b=x:=by
  unfold blk;rw [List.getD_eq_getElem?_getD,List.getElem?_set_self h];rfl
theorem blk_app (h:b < bs.length) (c:List Ki):blk (app bs b c) b=⟨(blk bs b).many,(blk bs b).l++c⟩:=by unfold app;rw [blk_set h]
theorem app_left (h:b < bs.length) (X:List Kb) (c:List Ki):app (bs++X) b c=app bs b c++X:=by
  unfold app;rw [blk_left h,List.set_append_left _ _ h]
theorem app_app (h:b < bs.length) (c d:List Ki):app (app bs b c) b d=app bs b (c++d):=by
  show (app bs b c).set b ⟨(blk (app bs b c) b).many,(blk (app bs b c) b).l++d⟩=_
  rw [blk_app h];show (app bs b c).set b ⟨(blk bs b).many,(blk bs b).l++c++d⟩=_
  unfold app;rw [List.set_set,List.append_assoc]
theorem app_nil (h:b < bs.length):app bs b []=bs:=by
  unfold app;rw [List.append_nil];have:(⟨(blk bs b).many,(blk bs b).l⟩:Kb)=bs[b]:=by
    show blk bs b=_
    unfold blk;rw [List.getD_eq_getElem?_getD,List.getElem?_eq_getElem h];rfl
  rw [this,List.set_getElem_self]
theorem app_end (bs:List Kb) (m:Int) (c:List Ki):app (bs++[⟨m,[]⟩]) bs.length c=bs++[⟨m,c⟩]:=by
  unfold app;have:blk (bs++[(⟨m,[]⟩:Kb)]) bs.length=⟨m,[]⟩:=by
    unfold blk;rw [List.getD_eq_getElem?_getD,List.getElem?_append_right (Nat.le_refl _)];simp
  rw [this,List.set_append_right _ _ (Nat.le_refl _)];simp
theorem lenB_left (h:b < bs.length) (X:List Kb):lenB (bs++X) b=lenB bs b:=by unfold lenB;rw [blk_left h]
theorem lenB_app (h:b < bs.length) (c:List Ki):lenB (app bs b c) b=lenB bs b+c.length:=by unfold lenB;rw [blk_app h];simp
theorem land_left (h:b < bs.length) (X:List Kb) (k:Nat):landB (bs++X) b k=landB bs b k++X:=by
  unfold landB;rw [blk_left h,List.set_append_left _ _ h]
theorem land_app (h:b < bs.length) (c d:List Ki) (x:Ki):landB (app bs b (c++(x::d))) b (lenB bs b+c.length)=app bs b (c++({ x with a:=(lenB bs b+c.length+1+d.length:Nat) }::d)):=by
  unfold landB;rw [blk_app h];simp only
  have e1:((blk bs b).l++(c++x::d)).getD (lenB bs b+c.length) k0=x:=by
    rw [List.getD_eq_getElem?_getD,List.getElem?_append_right (by unfold lenB;omega)];unfold lenB;rw [Nat.add_sub_cancel_left,List.getElem?_append_right (Nat.le_refl _)];simp
  have e2:((blk bs b).l++(c++x::d)).length=lenB bs b+c.length+1+d.length:=by unfold lenB;simp;omega
  rw [e1,e2];generalize ((lenB bs b+c.length+1+d.length:Nat):Int)=z;unfold app;rw [List.set_set];congr 2
  unfold lenB;rw [List.set_append_right _ _ (by omega),Nat.add_sub_cancel_left,List.set_append_right _ _ (Nat.le_refl _),Nat.sub_self];rfl
end
end GP
end Go.Proofs.YtehgmmbdlnginaaGreatDoor
namespace Go.Proofs.YtehgmmbdlnginaaGreatDoor
namespace GP
open KP SC
theorem not_end {op a b w:Int} (h:op≠13∧op≠15∧op≠16):¬ isEnd (ki op a b w):=fun e=>by
  rcases e with e | e | e
  · exact h.1 e
  · exact h.2.1 e
  · exact h.2.2 e
theorem one_tp {N:Nat} {dp:Nat→Nat} {p D:Nat} {x:Ki} (hd:dp p=D) (h0:0≤pops x) (h1:pops x≤D) (hs:∀ s∈succs (p:Int) x,(p:Int) < s∧s < N∧(dp s.toNat:Int)=D - pops x+pushes x) (he:¬ isEnd x):Tp N dp p [x]:=by
  intro k y hy;have hk:k=0:=by have:=(List.getElem?_eq_some_iff.1 hy).1;simp at this;exact this
  subst hk;simp only [List.getElem?_cons_zero,Option.some.injEq] at hy
  subst hy;simp only [Nat.add_zero]
  rw [hd];exact ⟨h0,h1,hs,fun e=>absurd e he⟩
theorem Fg.if_on {T:Int} {x y z:List Ki} {p D p2:Nat} (hp2:p2=p+x.length+1+y.length+1) (hx:Fg T x p D (some D)) (hy:Fg T y (p+x.length+1) D (some D)) (hz:Fg T z p2 D (some D)) (w9:Wl T (ki 9 p2 0 0)) (w8:Wl T (ki 8 (p2+z.length:Nat) 0 0)) :
    Fg T (x++(ki 9 p2 0 0::(y++([ki 8 (p2+z.length:Nat) 0 0]++z)))) p D (some D):=by
  have px:=hx.pos;have py:=hy.pos;have pz:=hz.pos;obtain ⟨dx,x1,x2,x3⟩:=hx.ty;obtain ⟨dy,y1,y2,y3⟩:=hy.ty;obtain ⟨dz,z1,z2,z3⟩:=hz.ty;have e9:succs ((p+x.length:Nat):Int) (ki 9 p2 0 0)=[((p+x.length:Nat):Int)+1,(p2:Int)]:=rfl;have e8:succs ((p+x.length+1+y.length:Nat):Int) (ki 8 (p2+z.length:Nat) 0 0)=[((p2+z.length:Nat):Int)]:=rfl;have hlen:(x++(ki 9 p2 0 0::(y++([ki 8 (p2+z.length:Nat) 0 0]++z)))).length=x.length+1+y.length+1+z.length:=by simp;omega
  refine ⟨⟨dx++(D::(dy++([D]++dz))),by simp [x1,y1,z1],by rw [List.getElem?_append_left (by omega)];exact x2,fun N dp hA ho hN=>?_⟩,fun q hq hl=>?_,(fun e=>by cases e),fun k w hw hop=>?_,fun w hw=>?_⟩
  · rw [hlen] at ho hN;obtain ⟨o1,o2⟩:=ho D rfl;have a1:=hA.right;rw [x1] at a1;have d1:=a1 0 D rfl;have a2:Agree (dy++([D]++dz)) dp (p+x.length+1):=Agree.right (a:=[D]) a1;have a3:=a2.right;rw [y1] at a3;have d3:=a3 0 D rfl;have a4:Agree dz dp (p+x.length+1+y.length+1):=Agree.right (a:=[D]) a3;rw [Nat.add_zero] at d1 d3;have dy0:=a2.left 0 _ y2;have dz0:=a4 0 _ z2;rw [Nat.add_zero] at dy0 dz0;refine (x3 N dp hA.left (fun D' e=>?_) (by omega)).app (Tp.cons (one_tp d1 (by show (0:Int)≤0;omega) (by show (0:Int)≤D;omega) (fun s hs=>?_) (not_end (by decide))) ((y3 N dp a2.left (fun D' e=>?_) (by omega)).app (Tp.cons (one_tp d3 (by show (0:Int)≤0;omega) (by show (0:Int)≤D;omega) (fun s hs=>?_) (not_end (by decide))) ?_)))
    · injection e with e;subst e;exact ⟨d1,by omega⟩
    · rw [e9] at hs;show _∧_∧_=(D:Int) - 0+0
      simp only [List.mem_cons,List.not_mem_nil,or_false] at hs
      rcases hs with rfl | rfl
      · refine ⟨by omega,by omega,?_⟩
        rw [show (((p+x.length:Nat):Int)+1).toNat=p+x.length+1 by omega,dy0];omega
      · refine ⟨by omega,by omega,?_⟩
        rw [show ((p2:Nat):Int).toNat=p+x.length+1+y.length+1 by omega,dz0];omega
    · injection e with e;subst e;exact ⟨d3,by omega⟩
    · rw [e8] at hs;show _∧_∧_=(D:Int) - 0+0
      have hs:s=((p2+z.length:Nat):Int):=by simpa using hs
      subst hs;refine ⟨by omega,by omega,?_⟩
      rw [show (((p2+z.length:Nat)):Int).toNat=p+(x.length+1+y.length+1+z.length) by omega,o1];omega
    · subst hp2;exact z3 N dp a4 (fun D' e=>by injection e with e;subst e;exact ⟨by rw [← o1];congr 1;omega,by omega⟩) (by omega)
  · rw [hlen] at hl;have b9:Rc (p+x.length) (ki 9 p2 0 0::(y++([ki 8 (p2+z.length:Nat) 0 0]++z))) (p+x.length+1):=⟨0,_,rfl,by omega,by rw [Nat.add_zero,e9];simp⟩
    have b92:Rc (p+x.length) (ki 9 p2 0 0::(y++([ki 8 (p2+z.length:Nat) 0 0]++z))) p2:=⟨0,_,rfl,by omega,by rw [Nat.add_zero,e9];simp⟩
    by_cases h1:q≤p+x.length
    · refine (hx.rc q hq ?_).left _
      by_cases h2:q < p+x.length
      · exact .inl h2
      · exact .inr ⟨by omega,by simp⟩
    · refine Rc.right x ?_
      by_cases h2:q=p+x.length+1
      · subst h2;exact b9
      · by_cases h3:q≤p+x.length+1+y.length
        · refine Rc.right [ki 9 p2 0 0] ((hy.rc q (by omega) ?_).left _)
          by_cases h4:q < p+x.length+1+y.length
          · exact .inl h4
          · exact .inr ⟨by omega,by simp⟩
        · by_cases h4:q=p2
          · subst h4;exact b92
          · refine Rc.right [ki 9 p2 0 0] (Rc.right y (Rc.right [ki 8 (p2+z.length:Nat) 0 0] ?_))
            have hq2:p+x.length+[ki 9 p2 0 0].length+y.length+[ki 8 (p2+z.length:Nat) 0 0].length=p2:=by simp;omega
            rw [hq2];refine hz.rc q (by omega) ?_
            by_cases h5:q < p2+z.length
            · exact .inl h5
            · exact .inr ⟨by omega,by simp⟩
  · by_cases hk:k < x.length
    · rw [List.getElem?_append_left hk] at hw;obtain ⟨j,v,e1,e2,e3,e4⟩:=hx.pl k w hw hop;have:=(List.getElem?_eq_some_iff.1 e3).1;exact ⟨j,v,e1,e2,by rw [List.getElem?_append_left this];exact e3,e4⟩
    · rw [List.getElem?_append_right (by omega)] at hw;by_cases hk0:k=x.length
      · subst hk0;simp only [Nat.sub_self,List.getElem?_cons_zero,Option.some.injEq] at hw
        subst hw;refine ⟨x.length+1+y.length,ki 8 (p2+z.length:Nat) 0 0,?_,by omega,?_,.inl rfl⟩
        · show (p2:Int)=_;omega
        · rw [List.getElem?_append_right (by omega),show x.length+1+y.length - x.length=y.length+1 by omega,List.getElem?_cons_succ,List.getElem?_append_right (by omega),Nat.sub_self];rfl
      · obtain ⟨m,rfl⟩:∃ m,k=x.length+1+m:=⟨k - x.length - 1,by omega⟩
        rw [show x.length+1+m - x.length=m+1 by omega,List.getElem?_cons_succ] at hw;have lift:∀ (j:Nat) (v:Ki),(y++([ki 8 (p2+z.length:Nat) 0 0]++z))[j]? = some v→(x++(ki 9 p2 0 0::(y++([ki 8 (p2+z.length:Nat) 0 0]++z))))[x.length+1+j]? = some v:=fun j v h=>by
          rw [List.getElem?_append_right (by omega),show x.length+1+j - x.length=j+1 by omega,List.getElem?_cons_succ];exact h
        by_cases hm:m < y.length
        · rw [List.getElem?_append_left hm] at hw;obtain ⟨j,v,e1,e2,e3,e4⟩:=hy.pl m w hw hop;have:=(List.getElem?_eq_some_iff.1 e3).1;exact ⟨x.length+1+j,v,by rw [e1];congr 1;omega,by omega,lift j v (by rw [List.getElem?_append_left this];exact e3),e4⟩
        · rw [List.getElem?_append_right (by omega)] at hw;by_cases hm0:m=y.length
          · subst hm0;simp only [Nat.sub_self,List.singleton_append,List.getElem?_cons_zero,Option.some.injEq] at hw
            subst hw;exact absurd (show (8:Int)=9 from hop) (by decide)
          · obtain ⟨n,rfl⟩:∃ n,m=y.length+1+n:=⟨m - y.length - 1,by omega⟩
            rw [show y.length+1+n - y.length=n+1 by omega,List.singleton_append,List.getElem?_cons_succ] at hw;obtain ⟨j,v,e1,e2,e3,e4⟩:=hz.pl n w hw hop;refine ⟨x.length+1+(y.length+1+j),v,by rw [e1,hp2];congr 1;omega,by omega,lift _ v ?_,e4⟩
            rw [List.getElem?_append_right (by omega),show y.length+1+j - y.length=j+1 by omega,List.singleton_append,List.getElem?_cons_succ];exact e3
  · simp only [List.mem_append,List.mem_cons,List.not_mem_nil,or_false] at hw
    rcases hw with h | rfl | h | rfl | h
    · exact hx.wl w h
    · exact w9
    · exact hy.wl w h
    · exact w8
    · exact hz.wl w h
theorem Fg.if_end {T:Int} {x y z:List Ki} {p D p2:Nat} (hp2:p2=p+x.length+1+y.length) (hx:Fg T x p D (some D)) (hy:Fg T y (p+x.length+1) D none) (hz:Fg T z p2 D none) (w9:Wl T (ki 9 p2 0 0)) :
    Fg T (x++(ki 9 p2 0 0::(y++z))) p D none:=by
  have px:=hx.pos;have py:=hy.pos;have pz:=hz.pos;obtain ⟨dx,x1,x2,x3⟩:=hx.ty;obtain ⟨dy,y1,y2,y3⟩:=hy.ty;obtain ⟨dz,z1,z2,z3⟩:=hz.ty;have e9:succs ((p+x.length:Nat):Int) (ki 9 p2 0 0)=[((p+x.length:Nat):Int)+1,(p2:Int)]:=rfl;have hlen:(x++(ki 9 p2 0 0::(y++z))).length=x.length+1+y.length+z.length:=by simp;omega
  refine ⟨⟨dx++(D::(dy++dz)),by simp [x1,y1,z1],by rw [List.getElem?_append_left (by omega)];exact x2,fun N dp hA ho hN=>?_⟩,fun q hq hl=>?_,fun _=>?_,fun k w hw hop=>?_,fun w hw=>?_⟩
  · rw [hlen] at hN;have a1:=hA.right;rw [x1] at a1;have d1:=a1 0 D rfl;have a2:Agree (dy++dz) dp (p+x.length+1):=Agree.right (a:=[D]) a1;have a4:=a2.right;rw [y1] at a4;rw [Nat.add_zero] at d1;have dy0:=a2.left 0 _ y2;have dz0:=a4 0 _ z2;rw [Nat.add_zero] at dy0 dz0;refine (x3 N dp hA.left (fun D' e=>?_) (by omega)).app (Tp.cons (one_tp d1 (by show (0:Int)≤0;omega) (by show (0:Int)≤D;omega) (fun s hs=>?_) (not_end (by decide))) ((y3 N dp a2.left (fun D' e=>by cases e) (by omega)).app ?_))
    · injection e with e;subst e;exact ⟨d1,by omega⟩
    · rw [e9] at hs;show _∧_∧_=(D:Int) - 0+0
      simp only [List.mem_cons,List.not_mem_nil,or_false] at hs
      rcases hs with rfl | rfl
      · refine ⟨by omega,by omega,?_⟩
        rw [show (((p+x.length:Nat):Int)+1).toNat=p+x.length+1 by omega,dy0];omega
      · refine ⟨by omega,by omega,?_⟩
        rw [show ((p2:Nat):Int).toNat=p+x.length+1+y.length by omega,dz0];omega
    · subst hp2;exact z3 N dp a4 (fun D' e=>by cases e) (by omega)
  · rw [hlen] at hl;have hl:q < p+(x.length+1+y.length+z.length):=by
      rcases hl with hl | hl
      · exact hl
      · exact absurd rfl hl.2
    have b9:Rc (p+x.length) (ki 9 p2 0 0::(y++z)) (p+x.length+1):=⟨0,_,rfl,by omega,by rw [Nat.add_zero,e9];simp⟩
    have b92:Rc (p+x.length) (ki 9 p2 0 0::(y++z)) p2:=⟨0,_,rfl,by omega,by rw [Nat.add_zero,e9];simp⟩
    by_cases h1:q≤p+x.length
    · refine (hx.rc q hq ?_).left _
      by_cases h2:q < p+x.length
      · exact .inl h2
      · exact .inr ⟨by omega,by simp⟩
    · refine Rc.right x ?_
      by_cases h2:q=p+x.length+1
      · subst h2;exact b9
      · by_cases h3:q < p+x.length+1+y.length
        · exact Rc.right [ki 9 p2 0 0] ((hy.rc q (by omega) (.inl (by simpa using h3))).left _)
        · by_cases h4:q=p2
          · subst h4;exact b92
          · refine Rc.right [ki 9 p2 0 0] (Rc.right y ?_)
            have hq2:p+x.length+[ki 9 p2 0 0].length+y.length=p2:=by simp;omega
            rw [hq2];exact hz.rc q (by omega) (.inl (by omega))
  · obtain ⟨a,v,e1,e2⟩:=hz.en rfl;exact ⟨x++(ki 9 p2 0 0::(y++a)),v,by rw [e1];simp,e2⟩
  · by_cases hk:k < x.length
    · rw [List.getElem?_append_left hk] at hw;obtain ⟨j,v,e1,e2,e3,e4⟩:=hx.pl k w hw hop;have:=(List.getElem?_eq_some_iff.1 e3).1;exact ⟨j,v,e1,e2,by rw [List.getElem?_append_left this];exact e3,e4⟩
    · rw [List.getElem?_append_right (by omega)] at hw;by_cases hk0:k=x.length
      · subst hk0;simp only [Nat.sub_self,List.getElem?_cons_zero,Option.some.injEq] at hw
        subst hw;obtain ⟨a,v,e1,e2⟩:=hy.en rfl;refine ⟨x.length+y.length,v,?_,by omega,?_,.inr e2⟩
        · show (p2:Int)=_;omega
        · rw [List.getElem?_append_right (by omega),show x.length+y.length - x.length=a.length+1 by rw [e1];simp,List.getElem?_cons_succ,e1,List.append_assoc,List.getElem?_append_right (by omega),Nat.sub_self];rfl
      · obtain ⟨m,rfl⟩:∃ m,k=x.length+1+m:=⟨k - x.length - 1,by omega⟩
        rw [show x.length+1+m - x.length=m+1 by omega,List.getElem?_cons_succ] at hw;have lift:∀ (j:Nat) (v:Ki),(y++z)[j]? = some v→(x++(ki 9 p2 0 0::(y++z)))[x.length+1+j]? = some v:=fun j v h=>by
          rw [List.getElem?_append_right (by omega),show x.length+1+j - x.length=j+1 by omega,List.getElem?_cons_succ];exact h
        by_cases hm:m < y.length
        · rw [List.getElem?_append_left hm] at hw;obtain ⟨j,v,e1,e2,e3,e4⟩:=hy.pl m w hw hop;have:=(List.getElem?_eq_some_iff.1 e3).1;exact ⟨x.length+1+j,v,by rw [e1];congr 1;omega,by omega,lift j v (by rw [List.getElem?_append_left this];exact e3),e4⟩
        · rw [List.getElem?_append_right (by omega)] at hw;obtain ⟨j,v,e1,e2,e3,e4⟩:=hz.pl _ w hw hop;refine ⟨x.length+1+(y.length+j),v,by rw [e1,hp2];congr 1;omega,by omega,lift _ v ?_,e4⟩
          rw [List.getElem?_append_right (by omega),Nat.add_sub_cancel_left];exact e3
  · simp only [List.mem_append,List.mem_cons] at hw
    rcases hw with h | rfl | h | h
    · exact hx.wl w h
    · exact w9
    · exact hy.wl w h
    · exact hz.wl w h
end GP
end Go.Proofs.YtehgmmbdlnginaaGreatDoor
