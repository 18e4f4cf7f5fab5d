/-
  Several texts in one: ExpPlain,ExpWork,ExpMach,ExpFew,ExpWee. Each one's own head tells its conditions.
-/
import Derived.Test.YtehgmmbdlnginaaGreatDoorQShowBackP
namespace Go.Proofs.YtehgmmbdlnginaaGreatDoor
namespace EX
open LX RX SX
instance:LawfulBEq ByteArray where
  eq_of_beq {a b} h:=by
    exact ByteArray.ext (eq_of_beq (α:=Array UInt8) h)
  rfl {a}:=by
    cases a
    exact beq_self_eq_true (α:=Array UInt8) _
structure Fm where
  kind:Int
  at_:Int
  n:Int
  s:ByteArray
  p:List ByteArray
  l:List Nat
inductive Pt where
  | top (i:Nat)
  | dat (i:Nat)
  | seq (at_:Int) (l:List Nat)
  | tr (at_ n:Int)
  | kept (at_:Int)
  | fn (at_:Int) (ns:List ByteArray) (b:Pt)
  | nested (at_:Int) (ns:List ByteArray) (vs:List Nat) (b:Pt)
  | cond (at_:Int) (l:List Nat)
  | and (at_:Int) (l:List Nat)
  | or (at_:Int) (l:List Nat)
  | orb (at_:Int) (l:List Nat)
inductive Pl where
  | bad (at_:Int)
  | mk (f:Fm) (ps:List Pt)
  | ins (p:Pt)
def nQuote:ByteArray:=⟨#[113,117,111,116,101]⟩
def nIf:ByteArray:=⟨#[105,102]⟩
def nLambda:ByteArray:=⟨#[108,97,109,98,100,97]⟩
def nSet:ByteArray:=⟨#[115,101,116,33]⟩
def nBegin:ByteArray:=⟨#[98,101,103,105,110]⟩
def nDefine:ByteArray:=⟨#[100,101,102,105,110,101]⟩
def nLet:ByteArray:=⟨#[108,101,116]⟩
def nStar:ByteArray:=⟨#[108,101,116,42]⟩
def nCond:ByteArray:=⟨#[99,111,110,100]⟩
def nElse:ByteArray:=⟨#[101,108,115,101]⟩
def nAnd:ByteArray:=⟨#[97,110,100]⟩
def nOr:ByteArray:=⟨#[111,114]⟩
def nWhen:ByteArray:=⟨#[119,104,101,110]⟩
def nUnless:ByteArray:=⟨#[117,110,108,101,115,115]⟩
def blank:ByteArray:=⟨#[32]⟩
def resN:List ByteArray:=[nQuote,nIf,nLambda,nSet,nBegin,nDefine,nLet,nStar,nCond,nElse,nAnd,nOr,nWhen,nUnless]
def reserved (s:ByteArray):Bool:=decide (s∈resN)
def nameOf (ns:List Nd) (i:Nat):Option ByteArray:=if (ndAt ns i).s=emp∨reserved (ndAt ns i).s=true then none else some (ndAt ns i).s
def namesG (ns:List Nd):List Nat→List ByteArray→Option (List ByteArray)
  | [],acc=>some acc
  | i::l,acc=>match nameOf ns i with
    | none=>none
    | some s=>if acc.length=100∨s∈acc then none else namesG ns l (acc++[s])
def namesOf (ns:List Nd) (l:List Nat):Option (List ByteArray):=namesG ns l []
def pairsG (ns:List Nd):List Nat→List Nat→List Nat→Option (List Nat × List Nat)
  | [],bs,vs=>some (bs,vs)
  | i::l,bs,vs=>if (ndAt ns i).l.length=2 then pairsG ns l (bs++[(ndAt ns i).l.getD 0 0]) (vs++[(ndAt ns i).l.getD 1 0]) else none
def pairsOf (ns:List Nd) (i:Nat):Option (List Nat × List Nat):=match pairsG ns (ndAt ns i).l [] [] with
  | none=>none
  | some r=>if (ndAt ns i).kind=4 then some r else none
def starG (ns:List Nd):List Nat→List ByteArray→Option (List ByteArray)
  | [],acc=>some acc
  | i::l,acc=>match nameOf ns i with
    | none=>none
    | some s=>starG ns l (acc++[s])
def body (at_:Int):List Nat→Pt
  | [x]=>.dat x
  | l=>.seq at_ l
def frm (kind at_ n:Int):Fm:=⟨kind,at_,n,emp,[],[]⟩
def choosePl (at_:Int) (a b c:Pt):Pl:=.mk (frm 5 at_ 0) [a,b,c]
def function (at_:Int) (names:List ByteArray) (b:Pt):Pl:=.mk ⟨6,at_,0,emp,names,[]⟩ [b]
def definition (at_:Int) (s:ByteArray) (v:Pt):Pl:=.mk ⟨9,at_,0,s,[],[]⟩ [v]
def call (at_:Int) (names:List ByteArray) (b:Pt) (vs:List Pt):Pl:=.mk (frm 10 at_ 0) (.fn at_ names b::vs)
def truth (at_ n:Int):Pl:=.mk (frm 2 at_ n) []
def nestedP (at_:Int):List ByteArray→List Nat→Pt→Pl
  | n::ns,v::vs,b=>call at_ [n] (.nested at_ ns vs b) [.dat v]
  | _,_,b=>.ins b
def andP (at_:Int):List Nat→Pl
  | []=>truth at_ 1
  | [a]=>.ins (.dat a)
  | a::l=>choosePl at_ (.dat a) (.and at_ l) (.tr at_ 0)
def orP (at_:Int):List Nat→Pl
  | []=>truth at_ 0
  | [a]=>.ins (.dat a)
  | a::l=>call at_ [blank] (.orb at_ l) [.dat a]
def condP (ns:List Nd) (at_:Int):List Nat→Pl
  | []=>truth at_ 0
  | c::cs =>
    let d:=ndAt ns c
    if d.l.length < 2 then .bad d.at_
    else if (ndAt ns (d.l.getD 0 0)).s≠nElse then choosePl at_ (.dat (d.l.getD 0 0)) (body d.at_ (d.l.drop 1)) (.cond at_ cs)
    else if cs≠[] then .bad d.at_
    else .ins (body d.at_ (d.l.drop 1))
def ifP (at_:Int) (r:List Nat):Pl:=choosePl at_ (.dat (r.getD 0 0)) (.dat (r.getD 1 0)) (if 2 < r.length then .dat (r.getD 2 0) else .tr at_ 0)
def lambdaP (ns:List Nd) (at_:Int) (r:List Nat):Pl :=
  let d:=ndAt ns (r.getD 0 0)
  match namesOf ns d.l with
  | none=>.bad at_
  | some names=>if d.kind=4 then function at_ names (body at_ (r.drop 1)) else .bad at_
def setP (ns:List Nd) (at_:Int) (r:List Nat):Pl:=match nameOf ns (r.getD 0 0) with
  | none=>.bad at_
  | some s=>.mk ⟨7,at_,0,s,[],[]⟩ [.dat (r.getD 1 0)]
def defineF (ns:List Nd) (at_:Int) (r h:List Nat):Pl:=match nameOf ns (h.getD 0 0),namesOf ns (h.drop 1) with
  | some s,some names=>definition at_ s (.fn at_ names (body at_ (r.drop 1)))
  | _,_=>.bad at_
def defineP (ns:List Nd) (at_:Int) (r:List Nat) (top:Bool):Pl :=
  if top=false then .bad at_
  else if (ndAt ns (r.getD 0 0)).l≠[] then defineF ns at_ r (ndAt ns (r.getD 0 0)).l
  else match nameOf ns (r.getD 0 0) with
    | none=>.bad at_
    | some s=>if 2 < r.length then .bad at_ else definition at_ s (.dat (r.getD 1 0))
def letP (ns:List Nd) (at_:Int) (r:List Nat):Pl:=match pairsOf ns (r.getD 0 0) with
  | none=>.bad at_
  | some (bs,vs)=>match namesOf ns bs with
    | none=>.bad at_
    | some names=>call at_ names (body at_ (r.drop 1)) (vs.map .dat)
def starP (ns:List Nd) (at_:Int) (r:List Nat):Pl:=match pairsOf ns (r.getD 0 0) with
  | none=>.bad at_
  | some (bs,vs)=>match starG ns bs [] with
    | none=>.bad at_
    | some names=>nestedP at_ names vs (body at_ (r.drop 1))
def whenP (at_:Int) (r:List Nat):Pl:=choosePl at_ (.dat (r.getD 0 0)) (body at_ (r.drop 1)) (.tr at_ 0)
def unlessP (at_:Int) (r:List Nat):Pl:=choosePl at_ (.dat (r.getD 0 0)) (.tr at_ 0) (body at_ (r.drop 1))
def least (s:ByteArray):Nat:=if s=nQuote then 1 else if s=nIf then 2 else if s=nLambda then 2 else if s=nSet then 2 else if s=nBegin then 1 else if s=nDefine then 2 else if s=nLet then 2 else if s=nStar then 2 else if s=nCond then 1 else if s=nWhen then 2 else if s=nUnless then 2 else 0
def shape (ns:List Nd) (s:ByteArray) (at_:Int) (r:List Nat) (top:Bool):Pl :=
  if r.length < least s then .bad at_
  else if s=nQuote then (if 1 < r.length then .bad at_ else .mk (frm 3 at_ (r.getD 0 0:Nat)) [])
  else if s=nIf then (if 3 < r.length then .bad at_ else ifP at_ r)
  else if s=nLambda then lambdaP ns at_ r
  else if s=nSet then (if 2 < r.length then .bad at_ else setP ns at_ r)
  else if s=nBegin then .ins (body at_ r)
  else if s=nDefine then defineP ns at_ r top
  else if s=nLet then letP ns at_ r
  else if s=nStar then starP ns at_ r
  else if s=nCond then condP ns at_ r
  else if s=nAnd then andP at_ r
  else if s=nOr then orP at_ r
  else if s=nWhen then whenP at_ r
  else if s=nUnless then unlessP at_ r
  else .bad at_
def listP (ns:List Nd) (d:Nd) (top:Bool):Pl :=
  if d.l=[] then .bad d.at_
  else if reserved (ndAt ns (d.l.getD 0 0)).s=true then shape ns (ndAt ns (d.l.getD 0 0)).s d.at_ (d.l.drop 1) top
  else .mk (frm 10 d.at_ 0) (d.l.map .dat)
def plan (ns:List Nd) (i:Nat) (top:Bool):Pl :=
  let d:=ndAt ns i
  if d.kind=1 then .mk (frm 1 d.at_ d.n) []
  else if d.kind=2 then .mk (frm 2 d.at_ d.n) []
  else if d.kind=3 then (if reserved d.s=true then .bad d.at_ else .mk ⟨4,d.at_,0,d.s,[],[]⟩ [])
  else listP ns d top
def ev (ns:List Nd):Pt→Pl
  | .top i=>plan ns i true
  | .dat i=>plan ns i false
  | .seq a l=>.mk (frm 8 a 0) (l.map .dat)
  | .tr a n=>truth a n
  | .kept a=>.mk ⟨4,a,0,blank,[],[]⟩ []
  | .fn a names b=>function a names b
  | .nested a names vs b=>nestedP a names vs b
  | .cond a l=>condP ns a l
  | .and a l=>andP a l
  | .or a l=>orP a l
  | .orb a l=>choosePl a (.kept a) (.kept a) (.or a l)
def runs (R:Pt→List Fm→Except Int (List Fm × Nat)):List Pt→List Fm→List Nat→Except Int (List Fm × List Nat)
  | [],st,l=>.ok (st,l)
  | p::ps,st,l=>match R p st with
    | .error e=>.error e
    | .ok (st',i)=>runs R ps st' (l++[i])
def onPl (R:Pt→List Fm→Except Int (List Fm × Nat)) (pl:Pl) (st:List Fm):Except Int (List Fm × Nat):=match pl with
  | .bad a=>.error a
  | .ins q=>R q st
  | .mk f ps=>match runs R ps st [] with
    | .error e=>.error e
    | .ok (st',l)=>.ok (st'++[{ f with l:=l }],st'.length)
def run (ns:List Nd):Nat→Pt→List Fm→Except Int (List Fm × Nat)
  | 0,_,_=>.error (-1)
  | f+1,p,st=>onPl (run ns f) (ev ns p) st
def runTops (ns:List Nd) (f:Nat):List Nat→List Fm→List Nat→Except Int (List Fm × List Nat)
  | [],st,t=>.ok (st,t)
  | i::l,st,t=>match run ns f (.top i) st with
    | .error e=>.error e
    | .ok (st',k)=>runTops ns f l st' (t++[k])
def expand (ns:List Nd) (tops:List Nat):Except Int (List Fm × List Nat):=runTops ns (16*ns.length) tops [] []
def tsz (ns:List Nd):Nat→Nat→Nat
  | 0,_=>1
  | f+1,i=>1+((ndAt ns i).l.map (tsz ns f)).sum
def T (ns:List Nd) (i:Nat):Nat:=tsz ns (i+1) i
theorem tsz_eq {ns:List Nd} (h:Ok ns):∀ (f g i:Nat),i < ns.length→i < f→i < g→tsz ns f i=tsz ns g i:=by
  intro f;induction f with
  | zero=>intro g i _ hf _;omega
  | succ f ih =>
    intro g i hi hf hg;cases g with
    | zero=>omega
    | succ g =>
      have hl:=h.lt i hi;unfold tsz;rw [List.map_congr_left (fun p hp=>by
        have:=hl p hp;exact ih g p (by omega) (by omega) (by omega))]
theorem T_eq {ns:List Nd} (h:Ok ns) {i:Nat} (hi:i < ns.length):T ns i=1+((ndAt ns i).l.map (T ns)).sum:=by
  have hl:=h.lt i hi;unfold T;rw [tsz,List.map_congr_left (fun p hp=>by
    have:=hl p hp;exact tsz_eq h i (p+1) p (by omega) (by omega) (by omega))]
theorem T_pos (ns:List Nd) (i:Nat):1≤T ns i:=by unfold T tsz;omega
def wts (ns:List Nd) (l:List Nat):Nat:=(l.map fun i=>16*T ns i).sum
theorem wts_nil (ns:List Nd):wts ns []=0:=rfl
theorem wts_cons (ns:List Nd) (a:Nat) (l:List Nat):wts ns (a::l)=16*T ns a+wts ns l:=by simp [wts]
theorem wts_append (ns:List Nd) (l m:List Nat):wts ns (l++m)=wts ns l+wts ns m:=by simp [wts]
theorem wts_T {ns:List Nd} (h:Ok ns) {i:Nat} (hi:i < ns.length):16*T ns i=16+wts ns (ndAt ns i).l:=by
  rw [T_eq h hi];unfold wts;have:∀ l:List Nat,(l.map fun i=>16*T ns i).sum=16*(l.map (T ns)).sum:=by
    intro l;induction l with
    | nil=>rfl
    | cons a l ih=>simp only [List.map_cons,List.sum_cons,ih];omega
  rw [this];omega
def wt (ns:List Nd):Pt→Nat
  | .top i=>16*T ns i - 8
  | .dat i=>16*T ns i - 8
  | .seq _ l=>wts ns l+1
  | .tr _ _=>1
  | .kept _=>1
  | .fn _ _ b=>wt ns b+1
  | .nested _ _ vs b=>wts ns vs+wt ns b+1
  | .cond _ l=>wts ns l+2
  | .and _ l=>wts ns l+2
  | .or _ l=>wts ns l+2
  | .orb _ l=>wts ns l+5
def wps (ns:List Nd) (ps:List Pt):Nat:=(ps.map (wt ns)).sum
def wpl (ns:List Nd):Pl→Nat
  | .bad _=>1
  | .mk _ ps=>1+wps ns ps
  | .ins q=>1+wt ns q
theorem wps_cons (ns:List Nd) (p:Pt) (ps:List Pt):wps ns (p::ps)=wt ns p+wps ns ps:=by simp [wps]
theorem wps_nil (ns:List Nd):wps ns []=0:=rfl
theorem wps_dat (ns:List Nd) (l:List Nat):wps ns (l.map .dat)+8*l.length≤wts ns l:=by
  induction l with
  | nil=>simp [wps,wts]
  | cons a l ih =>
    rw [List.map_cons,wps_cons,wts_cons,List.length_cons];have:=T_pos ns a;have:wt ns (.dat a)=16*T ns a - 8:=rfl;omega
theorem wt_pos (ns:List Nd) (p:Pt):1≤wt ns p:=by
  cases p <;> simp only [wt] <;> first | omega | (have:=T_pos ns (by assumption);omega)
theorem wt_body (ns:List Nd) (a:Int) (l:List Nat):wt ns (body a l)≤wts ns l+1:=by
  unfold body;split
  · rw [wts_cons,wts_nil];show 16*T ns _ - 8≤_;omega
  · exact Nat.le_refl _
def There (ns:List Nd):Pt→Prop
  | .top i=>i < ns.length
  | .dat i=>i < ns.length
  | .seq _ l=>∀ i∈l,i < ns.length
  | .tr _ _=>True
  | .kept _=>True
  | .fn _ _ b=>There ns b
  | .nested _ names vs b=>names.length=vs.length∧(∀ i∈vs,i < ns.length)∧There ns b
  | .cond _ l=>∀ i∈l,i < ns.length
  | .and _ l=>∀ i∈l,i < ns.length
  | .or _ l=>∀ i∈l,i < ns.length
  | .orb _ l=>∀ i∈l,i < ns.length
def ThereP (ns:List Nd):Pl→Prop
  | .bad _=>True
  | .mk _ ps=>∀ p∈ps,There ns p
  | .ins q=>There ns q
end EX
end Go.Proofs.YtehgmmbdlnginaaGreatDoor
namespace Go.Proofs.YtehgmmbdlnginaaGreatDoor
namespace EX
open LX RX SX
theorem nd_out {ns:List Nd} {i:Nat} (h:¬ i < ns.length):ndAt ns i=nd0:=by
  unfold ndAt;rw [List.getD_eq_getElem?_getD,List.getElem?_eq_none (by omega)];rfl
theorem kid {ns:List Nd} (h:Ok ns) {i p:Nat} (hp:p∈(ndAt ns i).l):p < i∧p < ns.length:=by
  by_cases hi:i < ns.length
  · have:=h.lt i hi p hp;omega
  · rw [nd_out hi] at hp;cases hp
theorem T_all {ns:List Nd} (h:Ok ns) (i:Nat):16*T ns i=16+wts ns (ndAt ns i).l:=by
  by_cases hi:i < ns.length
  · exact wts_T h hi
  · have:T ns i=1:=by unfold T tsz;rw [nd_out hi];rfl
    rw [this,nd_out hi];rfl
theorem ite_of {α:Type} {c:Prop} [Decidable c] {a b:α} (Q:α→Prop) (h1:c→Q a) (h2:¬ c→Q b):Q (if c then a else b):=by
  by_cases h:c
  · rw [if_pos h];exact h1 h
  · rw [if_neg h];exact h2 h
theorem shape_of {ns:List Nd} {s:ByteArray} {a:Int} {r:List Nat} {top:Bool} (Q:Pl→Prop) (hbad:Q (.bad a)) (hq:r.length=1→Q (.mk (frm 3 a (r.getD 0 0:Nat)) []))
    (hif:2≤r.length→r.length≤3→Q (ifP a r)) (hl:2≤r.length→Q (lambdaP ns a r)) (hs:r.length=2→Q (setP ns a r)) (hb:1≤r.length→Q (.ins (body a r))) (hd:2≤r.length→Q (defineP ns a r top))
    (hlet:2≤r.length→Q (letP ns a r)) (hst:2≤r.length→Q (starP ns a r)) (hc:1≤r.length→Q (condP ns a r)) (hand:Q (andP a r)) (hor:Q (orP a r)) (hw:2≤r.length→Q (whenP a r)) (hu:2≤r.length→Q (unlessP a r)):Q (shape ns s a r top):=by
  unfold shape;refine ite_of Q (fun _=>hbad) fun hlen=>?_
  refine ite_of Q (fun e=>?_) fun _=>?_
  · subst e;have:least nQuote=1:=by decide
    exact ite_of Q (fun _=>hbad) fun _=>hq (by omega)
  refine ite_of Q (fun e=>?_) fun _=>?_
  · subst e;have:least nIf=2:=by decide
    exact ite_of Q (fun _=>hbad) fun _=>hif (by omega) (by omega)
  refine ite_of Q (fun e=>?_) fun _=>?_
  · subst e;have:least nLambda=2:=by decide
    exact hl (by omega)
  refine ite_of Q (fun e=>?_) fun _=>?_
  · subst e;have:least nSet=2:=by decide
    exact ite_of Q (fun _=>hbad) fun _=>hs (by omega)
  refine ite_of Q (fun e=>?_) fun _=>?_
  · subst e;have:least nBegin=1:=by decide
    exact hb (by omega)
  refine ite_of Q (fun e=>?_) fun _=>?_
  · subst e;have:least nDefine=2:=by decide
    exact hd (by omega)
  refine ite_of Q (fun e=>?_) fun _=>?_
  · subst e;have:least nLet=2:=by decide
    exact hlet (by omega)
  refine ite_of Q (fun e=>?_) fun _=>?_
  · subst e;have:least nStar=2:=by decide
    exact hst (by omega)
  refine ite_of Q (fun e=>?_) fun _=>?_
  · subst e;have:least nCond=1:=by decide
    exact hc (by omega)
  refine ite_of Q (fun _=>hand) fun _=>?_
  refine ite_of Q (fun _=>hor) fun _=>?_
  refine ite_of Q (fun e=>?_) fun _=>?_
  · subst e;have:least nWhen=2:=by decide
    exact hw (by omega)
  refine ite_of Q (fun e=>?_) fun _=>hbad
  subst e;have:least nUnless=2:=by decide
  exact hu (by omega)
theorem two {r:List Nat} (h:2≤r.length):∃ a b t,r=a::b::t:=by
  match r with
  | []=>simp at h
  | [_]=>simp at h
  | a::b::t=>exact ⟨a,b,t,rfl⟩
theorem one {r:List Nat} (h:1≤r.length):∃ a t,r=a::t:=by
  match r with
  | []=>simp at h
  | a::t=>exact ⟨a,t,rfl⟩
theorem pairsG_facts {ns:List Nd} (h:Ok ns):∀ (l bs vs bs' vs':List Nat),pairsG ns l bs vs=some (bs',vs')→bs.length=vs.length→(∀ i∈bs++vs,i < ns.length) →
    bs'.length=vs'.length∧wts ns vs'≤wts ns vs+wts ns l∧(∀ i∈bs'++vs',i < ns.length)∧vs'.length=vs.length+l.length:=by
  intro l;induction l with
  | nil =>
    intro bs vs bs' vs' e hl hin;simp only [pairsG,Option.some.injEq,Prod.mk.injEq] at e
    obtain ⟨rfl,rfl⟩:=e;exact ⟨hl,by rw [wts_nil];omega,hin,by simp⟩
  | cons i l ih =>
    intro bs vs bs' vs' e hl hin;unfold pairsG at e;split at e
    · rename_i h2;obtain ⟨a,b,t,ht⟩:=two (r:=(ndAt ns i).l) (by omega);have ht0:t=[]:=by rw [ht] at h2;simpa using h2
      subst ht0;have ha:=(kid h (i:=i) (p:=a) (by rw [ht];simp)).2;have hb:=(kid h (i:=i) (p:=b) (by rw [ht];simp)).2;rw [ht] at e;simp only [List.getD_cons_zero,List.getD_cons_succ] at e
      obtain ⟨g1,g2,g3,g4⟩:=ih _ _ _ _ e (by simp [hl]) (fun j hj=>by
        simp only [List.mem_append,List.mem_singleton] at hj hin
        rcases hj with (hj | rfl) | (hj | rfl)
        · exact hin j (.inl hj)
        · exact ha
        · exact hin j (.inr hj)
        · exact hb)
      refine ⟨g1,?_,g3,by rw [g4];simp;omega⟩
      have hT:=T_all h i;rw [ht,wts_cons,wts_cons,wts_nil] at hT;rw [wts_append,wts_cons,wts_nil] at g2;rw [wts_cons];omega
    · cases e
theorem pairs_facts {ns:List Nd} (h:Ok ns) {i:Nat} {bs vs:List Nat} (e:pairsOf ns i=some (bs,vs)):bs.length=vs.length∧wts ns vs≤wts ns (ndAt ns i).l∧(∀ j∈bs++vs,j < ns.length):=by
  unfold pairsOf at e;split at e
  · cases e
  · rename_i r hr;split at e
    · injection e with e;subst e;have:=pairsG_facts h _ _ _ _ _ hr rfl (by simp);exact ⟨this.1,by have:=this.2.1;rw [wts_nil] at this;omega,this.2.2.1⟩
    · cases e
theorem starG_len {ns:List Nd}:∀ (l:List Nat) (acc out:List ByteArray),starG ns l acc=some out→out.length=acc.length+l.length:=by
  intro l;induction l with
  | nil=>intro acc out e;simp only [starG,Option.some.injEq] at e;subst e;simp
  | cons i l ih =>
    intro acc out e;unfold starG at e;split at e
    · cases e
    · have:=ih _ _ e;rw [this];simp;omega
theorem wps_two (ns:List Nd) (p q:Pt):wps ns [p,q]=wt ns p+wt ns q:=by rw [wps_cons,wps_cons,wps_nil];omega
theorem nested_w {ns:List Nd} (a:Int) (names:List ByteArray) (vs:List Nat) (b:Pt):wpl ns (nestedP a names vs b)≤wts ns vs+wt ns b+1:=by
  unfold nestedP;split
  · rename_i n nm v vs;unfold call;simp only [wpl];rw [wps_two,wts_cons];have:=T_pos ns v;simp only [wt]
    omega
  · simp only [wpl];omega
theorem and_w (ns:List Nd) (a:Int) (l:List Nat):wpl ns (andP a l)≤wts ns l+2:=by
  unfold andP;split
  · show 1+wps ns []≤_;rw [wps_nil];omega
  · rename_i x;simp only [wpl];rw [wts_cons];simp only [wt];omega
  · rename_i x l _;unfold choosePl;simp only [wpl];rw [wps_cons,wps_two,wts_cons];have:=T_pos ns x;simp only [wt];omega
theorem or_w (ns:List Nd) (a:Int) (l:List Nat):wpl ns (orP a l)≤wts ns l+2:=by
  unfold orP;split
  · show 1+wps ns []≤_;rw [wps_nil];omega
  · rename_i x;simp only [wpl];rw [wts_cons];simp only [wt];omega
  · rename_i x l _;unfold call;simp only [wpl];rw [wps_two,wts_cons];have:=T_pos ns x;simp only [wt];omega
theorem cond_w {ns:List Nd} (h:Ok ns) (a:Int) (l:List Nat):wpl ns (condP ns a l)≤wts ns l+2:=by
  unfold condP;split
  · show 1+wps ns []≤_;rw [wps_nil];omega
  · rename_i c cs;rw [wts_cons];have hT:=T_all h c;simp only []
    split
    · simp only [wpl];omega
    · rename_i h2;obtain ⟨x,y,t,ht⟩:=two (r:=(ndAt ns c).l) (by omega);rw [ht] at hT ⊢;rw [wts_cons] at hT;simp only [List.getD_cons_zero,List.drop_succ_cons,List.drop_zero]
      have hb:=wt_body ns (ndAt ns c).at_ (y::t);have:=T_pos ns x;split
      · unfold choosePl;simp only [wpl];rw [wps_cons,wps_two];simp only [wt] at hb ⊢
        omega
      · split
        · simp only [wpl];omega
        · simp only [wpl];omega
theorem plan_w {ns:List Nd} (h:Ok ns) (i:Nat) (top:Bool):wpl ns (plan ns i top)≤16*T ns i - 8:=by
  have hT:=T_all h i;have hT1:=T_pos ns i;unfold plan;simp only []
  split
  · show 1+wps ns []≤_;rw [wps_nil];omega
  split
  · show 1+wps ns []≤_;rw [wps_nil];omega
  split
  · split
    · simp only [wpl];omega
    · show 1+wps ns []≤_;rw [wps_nil];omega
  unfold listP;split
  · simp only [wpl];omega
  · rename_i hne;obtain ⟨x,r,hr⟩:=one (r:=(ndAt ns i).l) (List.length_pos_iff.2 hne);rw [hr] at hT ⊢;rw [wts_cons] at hT;have hx:=T_pos ns x;split
    · simp only [List.getD_cons_zero,List.drop_succ_cons,List.drop_zero]
      have hpos:wts ns r+8≤16*T ns i - 8:=by omega
      refine Nat.le_trans ?_ hpos
      refine shape_of (fun pl=>wpl ns pl≤wts ns r+8) ?_ ?_ ?_ ?_ ?_ ?_ ?_ ?_ ?_ ?_ ?_ ?_ ?_ ?_
      · simp only [wpl];omega
      · intro _;simp only [wpl];rw [wps_nil];omega
      · intro h2 h3;obtain ⟨y,z,t,rfl⟩:=two h2;unfold ifP choosePl;simp only [wpl];simp only [List.getD_cons_zero,List.getD_cons_succ]
        rw [wps_cons,wps_two,wts_cons,wts_cons];simp only [wt]
        split
        · rename_i h4;obtain ⟨u,t,rfl⟩:=one (r:=t) (by simp at h4;omega);simp only [List.getD_cons_zero,wt,wts_cons]
          omega
        · simp only [wt];omega
      · intro h2;obtain ⟨y,z,t,rfl⟩:=two h2;have hb:=wt_body ns (ndAt ns i).at_ (z::t);unfold lambdaP;simp only [List.getD_cons_zero,List.drop_succ_cons,List.drop_zero]
        rw [wts_cons];split
        · simp only [wpl];omega
        · split
          · unfold function;simp only [wpl];rw [wps_cons,wps_nil];omega
          · simp only [wpl];omega
      · intro h2;obtain ⟨y,z,t,rfl⟩:=two (by omega:2≤r.length);unfold setP;simp only [List.getD_cons_zero,List.getD_cons_succ]
        rw [wts_cons,wts_cons];split
        · simp only [wpl];omega
        · simp only [wpl];rw [wps_cons,wps_nil];simp only [wt];omega
      · intro h2;have hb:=wt_body ns (ndAt ns i).at_ r;simp only [wpl];omega
      · intro h2;obtain ⟨y,z,t,rfl⟩:=two h2;have hb:=wt_body ns (ndAt ns i).at_ (z::t);unfold defineP;split
        · simp only [wpl];omega
        split
        · unfold defineF;split
          · unfold definition;simp only [wpl];rw [wps_cons,wps_nil];simp only [wt,List.drop_succ_cons,List.drop_zero,wts_cons] at hb ⊢;omega
          · simp only [wpl];omega
        · split
          · simp only [wpl];omega
          · split
            · simp only [wpl];omega
            · unfold definition;simp only [wpl];rw [wps_cons,wps_nil,wts_cons,wts_cons];simp only [wt,List.getD_cons_zero,List.getD_cons_succ];omega
      · intro h2;obtain ⟨y,z,t,rfl⟩:=two h2;have hb:=wt_body ns (ndAt ns i).at_ (z::t);have hy:=T_all h y;unfold letP;simp only [List.getD_cons_zero,List.drop_succ_cons,List.drop_zero]
        rw [wts_cons];split
        · simp only [wpl];omega
        · rename_i bs vs e;obtain ⟨_,g2,_⟩:=pairs_facts h e;have hv:=wps_dat ns vs;split
          · simp only [wpl];omega
          · unfold call;simp only [wpl];rw [wps_cons];simp only [wt];omega
      · intro h2;obtain ⟨y,z,t,rfl⟩:=two h2;have hb:=wt_body ns (ndAt ns i).at_ (z::t);have hy:=T_all h y;unfold starP;simp only [List.getD_cons_zero,List.drop_succ_cons,List.drop_zero]
        rw [wts_cons];split
        · simp only [wpl];omega
        · rename_i bs vs e;obtain ⟨_,g2,_⟩:=pairs_facts h e;split
          · simp only [wpl];omega
          · rename_i names _;have:=nested_w (ns:=ns) (ndAt ns i).at_ names vs (body (ndAt ns i).at_ (z::t));omega
      · intro _;have:=cond_w h (ndAt ns i).at_ r;omega
      · have:=and_w ns (ndAt ns i).at_ r;omega
      · have:=or_w ns (ndAt ns i).at_ r;omega
      · intro h2;obtain ⟨y,z,t,rfl⟩:=two h2;have hb:=wt_body ns (ndAt ns i).at_ (z::t);unfold whenP choosePl;simp only [wpl];simp only [List.getD_cons_zero,List.drop_succ_cons,List.drop_zero]
        rw [wps_cons,wps_two,wts_cons];simp only [wt];omega
      · intro h2;obtain ⟨y,z,t,rfl⟩:=two h2;have hb:=wt_body ns (ndAt ns i).at_ (z::t);unfold unlessP choosePl;simp only [wpl];simp only [List.getD_cons_zero,List.drop_succ_cons,List.drop_zero]
        rw [wps_cons,wps_two,wts_cons];simp only [wt];omega
    · have:=wps_dat ns (x::r);rw [wts_cons] at this;simp only [wpl]
      omega
theorem ev_w {ns:List Nd} (h:Ok ns) (p:Pt):wpl ns (ev ns p)≤wt ns p:=by
  cases p with
  | top i=>exact plan_w h i true
  | dat i=>exact plan_w h i false
  | seq a l=>have:=wps_dat ns l;simp only [ev,wpl,wt];omega
  | tr a n=>simp only [ev,truth,wpl,wt,wps_nil];omega
  | kept a=>simp only [ev,wpl,wt,wps_nil];omega
  | fn a nm b=>simp only [ev,function,wpl,wt,wps_cons,wps_nil];omega
  | nested a nm vs b=>have:=nested_w (ns:=ns) a nm vs b;simp only [ev,wt];omega
  | cond a l=>have:=cond_w h a l;simp only [ev,wt];omega
  | and a l=>have:=and_w ns a l;simp only [ev,wt];omega
  | or a l=>have:=or_w ns a l;simp only [ev,wt];omega
  | orb a l=>simp only [ev,choosePl,wpl,wt,wps_cons,wps_nil];omega
end EX
end Go.Proofs.YtehgmmbdlnginaaGreatDoor
namespace Go.Proofs.YtehgmmbdlnginaaGreatDoor
namespace EX
open LX RX SX
theorem there_body {ns:List Nd} (a:Int) {l:List Nat} (h:∀ i∈l,i < ns.length):There ns (body a l):=by
  unfold body;split
  · exact h _ (by simp)
  · exact h
theorem mem_drop1 {r:List Nat} {i:Nat} (h:i∈r.drop 1):i∈r:=List.mem_of_mem_drop h
theorem mem_getD {r:List Nat} {k:Nat} (h:k < r.length):r.getD k 0∈r:=getD_mem r k h
theorem there_dats {ns:List Nd} {l:List Nat} (h:∀ i∈l,i < ns.length):∀ p∈l.map Pt.dat,There ns p:=by
  intro p hp;obtain ⟨i,hi,rfl⟩:=List.mem_map.1 hp;exact h i hi
theorem nested_there {ns:List Nd} (a:Int) (names:List ByteArray) (vs:List Nat) (b:Pt) (h:There ns (.nested a names vs b)):ThereP ns (nestedP a names vs b):=by
  obtain ⟨h1,h2,h3⟩:=h;unfold nestedP;split
  · rename_i n nm v vs;unfold call;intro p hp;simp only [List.mem_cons,List.not_mem_nil,or_false] at hp
    rcases hp with rfl | rfl
    · exact ⟨by simpa using h1,fun i hi=>h2 i (List.mem_cons_of_mem _ hi),h3⟩
    · exact h2 v (List.mem_cons_self ..)
  · exact h3
theorem and_there {ns:List Nd} (a:Int) (l:List Nat) (h:∀ i∈l,i < ns.length):ThereP ns (andP a l):=by
  unfold andP;split
  · intro p hp;cases hp
  · exact h _ (List.mem_cons_self ..)
  · rename_i x l _;intro p hp;simp only [List.mem_cons,List.not_mem_nil,or_false] at hp
    rcases hp with rfl | rfl | rfl
    · exact h x (List.mem_cons_self ..)
    · exact fun i hi=>h i (List.mem_cons_of_mem _ hi)
    · exact trivial
theorem or_there {ns:List Nd} (a:Int) (l:List Nat) (h:∀ i∈l,i < ns.length):ThereP ns (orP a l):=by
  unfold orP;split
  · intro p hp;cases hp
  · exact h _ (List.mem_cons_self ..)
  · rename_i x l _;intro p hp;simp only [List.mem_cons,List.not_mem_nil,or_false] at hp
    rcases hp with rfl | rfl
    · exact fun i hi=>h i (List.mem_cons_of_mem _ hi)
    · exact h x (List.mem_cons_self ..)
theorem cond_there {ns:List Nd} (hok:Ok ns) (a:Int) (l:List Nat) (h:∀ i∈l,i < ns.length):ThereP ns (condP ns a l):=by
  unfold condP;split
  · intro p hp;cases hp
  · rename_i c cs;simp only []
    refine ite_of (ThereP ns) (fun _=>trivial) fun h2=>?_
    have hin:∀ i∈(ndAt ns c).l,i < ns.length:=fun i hi=>(kid hok hi).2
    have hb:=there_body (ns:=ns) (ndAt ns c).at_ (l:=(ndAt ns c).l.drop 1) (fun i hi=>hin i (mem_drop1 hi));refine ite_of (ThereP ns) (fun _=>?_) fun _=>ite_of (ThereP ns) (fun _=>trivial) fun _=>hb
    intro p hp;simp only [List.mem_cons,List.not_mem_nil,or_false] at hp
    rcases hp with rfl | rfl | rfl
    · exact hin _ (mem_getD (by omega))
    · exact hb
    · exact fun i hi=>h i (List.mem_cons_of_mem _ hi)
theorem list_there {ns:List Nd} (hok:Ok ns) (d:Nd) (hin:∀ i∈d.l,i < ns.length) (top:Bool):ThereP ns (listP ns d top):=by
  unfold listP;refine ite_of (ThereP ns) (fun _=>trivial) fun hne=>?_
  refine ite_of (ThereP ns) (fun _=>?_) fun _=>there_dats hin
  have hr:∀ i∈d.l.drop 1,i < ns.length:=fun i hi=>hin i (mem_drop1 hi)
  generalize d.l.drop 1=r at hr;have hg:∀ k,k < r.length→r.getD k 0 < ns.length:=fun k hk=>hr _ (mem_getD hk)
  have hb1:=there_body (ns:=ns) d.at_ (l:=r.drop 1) (fun i hi=>hr i (mem_drop1 hi));have hb0:=there_body (ns:=ns) d.at_ hr;refine shape_of (ThereP ns) trivial (fun _ p hp=>by cases hp) ?_ ?_ ?_ (fun _=>hb0) ?_ ?_ ?_ (fun _=>cond_there hok _ _ hr) (and_there _ _ hr) (or_there _ _ hr) ?_ ?_
  · intro h2 h3 p hp;simp only [List.mem_cons,List.not_mem_nil,or_false] at hp
    rcases hp with rfl | rfl | rfl
    · exact hg 0 (by omega)
    · exact hg 1 (by omega)
    · exact ite_of (There ns) (fun h=>hg 2 h) fun _=>trivial
  · intro h2;unfold lambdaP;simp only []
    split
    · trivial
    · refine ite_of (ThereP ns) (fun _ p hp=>?_) fun _=>trivial
      simp only [List.mem_cons,List.not_mem_nil,or_false] at hp
      subst hp;exact hb1
  · intro h2;unfold setP;split
    · trivial
    · intro p hp;simp only [List.mem_cons,List.not_mem_nil,or_false] at hp
      subst hp;exact hg 1 (by omega)
  · intro h2;unfold defineP;refine ite_of (ThereP ns) (fun _=>trivial) fun _=>?_
    refine ite_of (ThereP ns) (fun _=>?_) fun _=>?_
    · unfold defineF;split
      · intro p hp;simp only [List.mem_cons,List.not_mem_nil,or_false] at hp
        subst hp;exact hb1
      · trivial
    · split
      · trivial
      · refine ite_of (ThereP ns) (fun _=>trivial) fun _ p hp=>?_
        simp only [List.mem_cons,List.not_mem_nil,or_false] at hp
        subst hp;exact hg 1 (by omega)
  · intro h2;unfold letP;split
    · trivial
    · rename_i bs vs e;obtain ⟨_,_,g3⟩:=pairs_facts hok e;split
      · trivial
      · intro p hp
        rcases List.mem_cons.1 hp with rfl | hp
        · exact hb1
        · exact there_dats (fun i hi=>g3 i (List.mem_append_right _ hi)) p hp
  · intro h2;unfold starP;split
    · trivial
    · rename_i bs vs e;obtain ⟨g1,_,g3⟩:=pairs_facts hok e;split
      · trivial
      · rename_i names e2;have:=starG_len _ _ _ e2;exact nested_there _ _ _ _ ⟨by simp at this;omega,fun i hi=>g3 i (List.mem_append_right _ hi),hb1⟩
  · intro h2 p hp;simp only [List.mem_cons,List.not_mem_nil,or_false] at hp
    rcases hp with rfl | rfl | rfl
    · exact hg 0 (by omega)
    · exact hb1
    · trivial
  · intro h2 p hp;simp only [List.mem_cons,List.not_mem_nil,or_false] at hp
    rcases hp with rfl | rfl | rfl
    · exact hg 0 (by omega)
    · trivial
    · exact hb1
theorem plan_there {ns:List Nd} (hok:Ok ns) (i:Nat) (top:Bool):ThereP ns (plan ns i top):=by
  unfold plan;simp only []
  refine ite_of (ThereP ns) (fun _ p hp=>by cases hp) fun _=>?_
  refine ite_of (ThereP ns) (fun _ p hp=>by cases hp) fun _=>?_
  refine ite_of (ThereP ns) (fun _=>ite_of (ThereP ns) (fun _=>trivial) (fun _ p hp=>by cases hp)) fun _=>?_
  exact list_there hok _ (fun p hp=>(kid hok hp).2) top
theorem ev_there {ns:List Nd} (hok:Ok ns) (p:Pt) (h:There ns p):ThereP ns (ev ns p):=by
  cases p with
  | top i=>exact plan_there hok i true
  | dat i=>exact plan_there hok i false
  | seq a l=>exact there_dats h
  | tr a n=>exact fun p hp=>by cases hp
  | kept a=>exact fun p hp=>by cases hp
  | fn a nm b =>
    intro p hp;simp only [List.mem_cons,List.not_mem_nil,or_false] at hp
    subst hp;exact h
  | nested a nm vs b=>exact nested_there _ _ _ _ h
  | cond a l=>exact cond_there hok _ _ h
  | and a l=>exact and_there _ _ h
  | or a l=>exact or_there _ _ h
  | orb a l =>
    intro p hp;simp only [List.mem_cons,List.not_mem_nil,or_false] at hp
    rcases hp with rfl | rfl | rfl
    · trivial
    · trivial
    · exact h
theorem run_same {ns:List Nd} (h:Ok ns):∀ (f g:Nat) (p:Pt),wt ns p≤f→wt ns p≤g→∀ st,run ns f p st=run ns g p st:=by
  intro f;induction f with
  | zero=>intro g p hf _;have:=wt_pos ns p;omega
  | succ f ih =>
    intro g p hf hg st;cases g with
    | zero=>have:=wt_pos ns p;omega
    | succ g =>
      have hw:=ev_w h p;unfold run;generalize ev ns p=pl at hw;cases pl with
      | bad a=>rfl
      | ins q=>simp only [wpl] at hw;exact ih g q (by omega) (by omega) st
      | mk fm ps =>
        simp only [wpl] at hw
        have hps:∀ (ps:List Pt),wps ns ps≤f→wps ns ps≤g→∀ st l,runs (run ns f) ps st l=runs (run ns g) ps st l:=by
          intro ps;induction ps with
          | nil=>intro _ _ st l;rfl
          | cons q ps ihp =>
            intro h1 h2 st l;rw [wps_cons] at h1 h2;unfold runs;rw [ih g q (by omega) (by omega) st];split
            · rfl
            · exact ihp (by omega) (by omega) _ _
        simp only [onPl]
        rw [hps ps (by omega) (by omega) st []]
structure Op where
  f:Fm
  ps:List Pt
def Op.add (o:Op) (i:Nat):Op:=⟨{ o.f with l:=o.f.l++[i] },o.ps⟩
structure St where
  row:List Fm
  tops:List Nat
  op:List Op
  next:Option Pt
def goOn (row:List Fm) (tops:List Nat):List Op→St
  | []=>⟨row,tops,[],none⟩
  | o::os =>
    if h:o.f.l.length < o.ps.length then ⟨row,tops,o::os,some o.ps[o.f.l.length]⟩
    else match os with
      | []=>⟨row++[o.f],tops++[row.length],[],none⟩
      | o2::os2=>goOn (row++[o.f]) tops (o2.add row.length::os2)
  termination_by os=>os.length
def put (row:List Fm) (tops:List Nat) (i:Nat):List Op→St
  | []=>⟨row,tops++[i],[],none⟩
  | o::os=>goOn row tops (o.add i::os)
def res (ns:List Nd):Nat→Pl→Option Pl
  | _,.bad a=>some (.bad a)
  | _,.mk f ps=>some (.mk f ps)
  | 0,.ins _=>none
  | m+1,.ins q=>res ns m (ev ns q)
def go (ns:List Nd):Nat→St→Option (Except Int (List Fm × List Nat))
  | m,s=>match s.next with
    | none=>some (.ok (s.row,s.tops))
    | some p=>match m with
      | 0=>none
      | m+1=>match res ns m (ev ns p) with
        | none=>none
        | some (.bad a)=>some (.error a)
        | some (.ins _)=>none
        | some (.mk f ps)=>go ns m (goOn s.row s.tops (⟨{ f with l:=[] },ps⟩::s.op))
def after (ns:List Nd) (tops:List Nat) (os:List Op) (k:Nat):Except Int (List Fm × Nat)→Option (Except Int (List Fm × List Nat))
  | .error e=>some (.error e)
  | .ok (row',i)=>go ns k (put row' tops i os)
end EX
end Go.Proofs.YtehgmmbdlnginaaGreatDoor
namespace Go.Proofs.YtehgmmbdlnginaaGreatDoor
namespace EX
open LX RX SX
structure Few (B:Nat) (row:List Fm) (tops:List Nat) (op:List Op):Prop where
  sum:row.length+op.length≤B
  tops:tops.length≤row.length
  lists:∀ o∈op,o.f.l.length≤row.length
theorem Few.add {B:Nat} {row:List Fm} {tops:List Nat} {o o2:Op} {os:List Op} (h:Few B row tops (o::o2::os)):Few B (row++[o.f]) tops (o2.add row.length::os):=by
  have h1:=h.sum;have h2:=h.tops;refine ⟨?_,?_,fun x hx=>?_⟩
  · simp only [List.length_append,List.length_cons,List.length_nil] at h1 ⊢;omega
  · simp only [List.length_append,List.length_cons,List.length_nil];omega
  · rcases List.mem_cons.1 hx with rfl | hx
    · have:=h.lists o2 (by simp);simp only [Op.add,List.length_append,List.length_cons,List.length_nil];omega
    · have:=h.lists x (by simp [hx]);simp only [List.length_append,List.length_cons,List.length_nil];omega
theorem Few.last {B:Nat} {row:List Fm} {tops:List Nat} {o:Op} (h:Few B row tops [o]):Few B (row++[o.f]) (tops++[row.length]) []:=by
  have h1:=h.sum;have h2:=h.tops;refine ⟨?_,?_,fun x hx=>by cases hx⟩
  · simp only [List.length_append,List.length_cons,List.length_nil] at h1 ⊢;omega
  · simp only [List.length_append,List.length_cons,List.length_nil];omega
section
variable (ns:List Nd) (a:Int) (r:List Nat) (top:Bool)
end
end EX
end Go.Proofs.YtehgmmbdlnginaaGreatDoor
namespace Go.Proofs.YtehgmmbdlnginaaGreatDoor
namespace EX
open LX RX SX
section
variable {K:Nat}
end
end EX
end Go.Proofs.YtehgmmbdlnginaaGreatDoor
