/-
  Several texts in one: ExpKd1,ExpCa,ExpCb,ExpE,ExpL,ExpTp1,ExpR21,ExpDta.
-/
import Derived.Test.YtehgmmbdlnginaaGreatDoorQExpRel
import Derived.Test.YtehgmmbdlnginaaGreatDoorQExpBase
import Derived.Test.YtehgmmbdlnginaaGreatDoorQExpPure
import Derived.Test.YtehgmmbdlnginaaGreatDoorQReadCs
import Derived.Test.YtehgmmbdlnginaaGreatDoorQReadMays
import Derived.Test.YtehgmmbdlnginaaGreatDoorQShowBackP
import Derived.Test.YtehgmmbdlnginaaGreatDoorQExpR20
import Derived.Orders
import Derived.Deep.RegionLaw
import Derived.Deep.DeepCutAuto
import Derived.Deep.QuietTactic
import Derived.BigQuiet
import Derived.Deep.LoopGhost
import Derived.Deep.RegionHeld3
import Derived.Deep.CutRange
import Derived.Deep.Onto
namespace Go.Proofs.YtehgmmbdlnginaaGreatDoor
namespace EX
open LX RX SX
structure GoodN (l:List ByteArray):Prop where
  nodup:l.Nodup
  res:∀ s∈l,reserved s=false
  few:l.length≤100
def GoodPt:Pt→Prop
  | .top _=>False
  | .seq _ l=>2≤l.length
  | .fn _ ns b=>GoodN ns∧GoodPt b
  | .nested _ ns _ b=>(∀ s∈ns,reserved s=false)∧GoodPt b
  | _=>True
def GoodK (kind:Int) (n:Nat):Prop:=((kind=1∨kind=2∨kind=3∨kind=4)∧n=0)∨(kind=5∧n=3)∨((kind=6∨kind=7∨kind=9)∧n=1)∨(kind=8∧2≤n)∨(kind=10∧1≤n)
structure GoodF (f:Fm) (n:Nat):Prop where
  kind:GoodK f.kind n
  none:f.kind≠6→f.p=[]
  names:GoodN f.p
  name:f.kind=4∨f.kind=7∨f.kind=9→reserved f.s=false
def GoodPl (top:Bool):Pl→Prop
  | .bad _=>True
  | .mk f ps=>GoodF f ps.length∧(∀ p∈ps,GoodPt p)∧(f.kind=9→top=true)
  | .ins q=>GoodPt q
theorem no9 (k:Int) (hk:k≠9) {t:Bool}:k=9→t=true:=fun h=>absurd h hk
theorem goodN_nil:GoodN []:=⟨List.nodup_nil,fun _ h=>(by cases h),by simp⟩
theorem good_plain {kind a n:Int} {s:ByteArray} {m:Nat} (hk:GoodK kind m) (_:kind≠6) (hs:kind=4∨kind=7∨kind=9→reserved s=false):GoodF ⟨kind,a,n,s,[],[]⟩ m:=⟨hk,fun _=>rfl,goodN_nil,hs⟩
theorem res_blank:reserved blank=false:=by decide
theorem good_frm {kind a n:Int} {m:Nat} (hk:GoodK kind m) (h6:kind≠6) (h4:kind≠4) (h7:kind≠7) (h9:kind≠9):GoodF (frm kind a n) m:=good_plain hk h6 (fun h=>by omega)
theorem good_body (a:Int) {l:List Nat} (h:1≤l.length):GoodPt (body a l):=by
  match l,h with
  | [x],_=>trivial
  | x::y::t,_=>show 2≤(x::y::t).length;simp
theorem good_dats (l:List Nat):∀ p∈l.map Pt.dat,GoodPt p:=by
  intro p hp;obtain ⟨i,_,rfl⟩:=List.mem_map.1 hp;trivial
theorem good_choose (t:Bool) (a:Int) {x y z:Pt} (hx:GoodPt x) (hy:GoodPt y) (hz:GoodPt z):GoodPl t (choosePl a x y z):=by
  refine ⟨good_frm (.inr (.inl ⟨rfl,rfl⟩)) (by decide) (by decide) (by decide) (by decide),fun p hp=>?_,no9 5 (by decide)⟩
  simp only [List.mem_cons,List.not_mem_nil,or_false] at hp
  rcases hp with rfl | rfl | rfl
  · exact hx
  · exact hy
  · exact hz
theorem good_truth (t:Bool) (a n:Int):GoodPl t (truth a n):=⟨good_frm (.inl ⟨.inr (.inl rfl),rfl⟩) (by decide) (by decide) (by decide) (by decide),fun p hp=>(by cases hp),no9 2 (by decide)⟩
theorem good_function (t:Bool) (a:Int) {ns:List ByteArray} {b:Pt} (hn:GoodN ns) (hb:GoodPt b):GoodPl t (function a ns b):=by
  refine ⟨⟨.inr (.inr (.inl ⟨.inl rfl,rfl⟩)),fun h=>absurd rfl h,hn,fun h=>?_⟩,fun p hp=>?_,no9 6 (by decide)⟩
  · rcases h with h | h | h
    · exact absurd (show (6:Int)=4 from h) (by decide)
    · exact absurd (show (6:Int)=7 from h) (by decide)
    · exact absurd (show (6:Int)=9 from h) (by decide)
  · rw [List.mem_singleton.1 hp];exact hb
theorem good_call (t:Bool) (a:Int) {ns:List ByteArray} {b:Pt} {vs:List Pt} (hn:GoodN ns) (hb:GoodPt b) (hv:∀ p∈vs,GoodPt p):GoodPl t (call a ns b vs):=by
  refine ⟨good_frm (.inr (.inr (.inr (.inr ⟨rfl,by simp⟩)))) (by decide) (by decide) (by decide) (by decide),fun p hp=>?_,no9 10 (by decide)⟩
  rcases List.mem_cons.1 hp with rfl | hp
  · exact ⟨hn,hb⟩
  · exact hv p hp
theorem good_definition (a:Int) {s:ByteArray} {v:Pt} (hs:reserved s=false) (hv:GoodPt v):GoodPl true (definition a s v) :=
  ⟨good_plain (.inr (.inr (.inl ⟨.inr (.inr rfl),rfl⟩))) (by decide) (fun _=>hs),fun p hp=>by rw [List.mem_singleton.1 hp];exact hv,fun _=>rfl⟩
theorem goodN_one {s:ByteArray} (h:reserved s=false):GoodN [s]:=⟨by simp,fun x hx=>by rw [List.mem_singleton.1 hx];exact h,by simp⟩
theorem good_nested (t:Bool) (a:Int) (names:List ByteArray) (vs:List Nat) (b:Pt) (hn:∀ s∈names,reserved s=false) (hb:GoodPt b):GoodPl t (nestedP a names vs b):=by
  match names,vs,hn with
  | [],_,_=>exact hb
  | _::_,[],_=>exact hb
  | n::ns,v::vs,hn=>exact good_call t a (goodN_one (hn n (List.mem_cons_self ..))) ⟨fun s hs=>hn s (List.mem_cons_of_mem _ hs),hb⟩ (fun p hp=>by rw [List.mem_singleton.1 hp];trivial)
theorem good_and (t:Bool) (a:Int) (l:List Nat):GoodPl t (andP a l):=by
  match l with
  | []=>exact good_truth t a 1
  | [x]=>trivial
  | x::y::l=>exact good_choose t a trivial trivial trivial
theorem good_or (t:Bool) (a:Int) (l:List Nat):GoodPl t (orP a l):=by
  match l with
  | []=>exact good_truth t a 0
  | [x]=>trivial
  | x::y::l=>exact good_call t a (goodN_one res_blank) trivial (fun p hp=>by rw [List.mem_singleton.1 hp];trivial)
theorem good_cond (t:Bool) (ns:List Nd) (a:Int) (l:List Nat):GoodPl t (condP ns a l):=by
  match l with
  | []=>exact good_truth t a 0
  | c::cs =>
    unfold condP;simp only []
    refine ite_of (GoodPl t) (fun _=>trivial) fun h2=>?_
    have hb:=good_body (ndAt ns c).at_ (l:=(ndAt ns c).l.drop 1) (by rw [List.length_drop];omega);exact ite_of (GoodPl t) (fun _=>good_choose t a trivial hb trivial) fun _=>ite_of (GoodPl t) (fun _=>trivial) fun _=>hb
theorem nameOf_good {ns:List Nd} {i:Nat} {s:ByteArray} (h:nameOf ns i=some s):reserved s=false:=by
  unfold nameOf at h;split at h
  · cases h
  · rename_i hn;injection h with h;subst h;cases hr:reserved (ndAt ns i).s with
    | false=>rfl
    | true=>exact absurd (.inr hr) hn
theorem namesG_good {ns:List Nd}:∀ (l:List Nat) (acc out:List ByteArray),namesG ns l acc=some out→GoodN acc→GoodN out:=by
  intro l;induction l with
  | nil=>intro acc out e h;simp only [namesG,Option.some.injEq] at e;subst e;exact h
  | cons i l ih =>
    intro acc out e h;unfold namesG at e;split at e
    · cases e
    · rename_i s hs;split at e
      · cases e
      · rename_i hn;refine ih _ _ e ⟨?_,fun x hx=>?_,by have:=h.few;rw [List.length_append];simp;omega⟩
        · rw [List.nodup_append];refine ⟨h.nodup,by simp,fun a ha b hb e=>?_⟩
          rw [List.mem_singleton.1 hb] at e;subst e;exact hn (.inr ha)
        · rcases List.mem_append.1 hx with hx | hx
          · exact h.res x hx
          · rw [List.mem_singleton.1 hx];exact nameOf_good hs
theorem names_good {ns:List Nd} {l:List Nat} {out:List ByteArray} (h:namesOf ns l=some out):GoodN out:=namesG_good l [] out h goodN_nil
theorem starG_good {ns:List Nd}:∀ (l:List Nat) (acc out:List ByteArray),starG ns l acc=some out→(∀ s∈acc,reserved s=false)→∀ s∈out,reserved s=false:=by
  intro l;induction l with
  | nil=>intro acc out e h;simp only [starG,Option.some.injEq] at e;subst e;exact h
  | cons i l ih =>
    intro acc out e h;unfold starG at e;split at e
    · cases e
    · rename_i s hs;refine ih _ _ e fun x hx=>?_
      rcases List.mem_append.1 hx with hx | hx
      · exact h x hx
      · rw [List.mem_singleton.1 hx];exact nameOf_good hs
theorem good_list (ns:List Nd) (d:Nd) (top:Bool):GoodPl top (listP ns d top):=by
  unfold listP;refine ite_of (GoodPl top) (fun _=>trivial) fun hne=>?_
  refine ite_of (GoodPl top) (fun _=>?_) fun _=>⟨good_frm (.inr (.inr (.inr (.inr ⟨rfl,by rw [List.length_map];exact List.length_pos_iff.2 hne⟩)))) (by decide) (by decide) (by decide) (by decide),good_dats _,no9 10 (by decide)⟩
  generalize d.l.drop 1=r;have hb1:2≤r.length→GoodPt (body d.at_ (r.drop 1)):=fun h=>good_body _ (by rw [List.length_drop];omega)
  refine shape_of (GoodPl top) trivial (fun _=>⟨good_frm (.inl ⟨.inr (.inr (.inl rfl)),rfl⟩) (by decide) (by decide) (by decide) (by decide),fun p hp=>(by cases hp),no9 3 (by decide)⟩) ?_ ?_ ?_ (fun h=>good_body _ h) ?_ ?_ ?_ (fun _=>good_cond top ns _ _) (good_and top _ _) (good_or top _ _) (fun h=>good_choose top _ trivial (hb1 h) trivial) (fun h=>good_choose top _ trivial trivial (hb1 h))
  · intro _ _;exact good_choose top _ trivial trivial (ite_of GoodPt (fun _=>trivial) fun _=>trivial)
  · intro h2;unfold lambdaP;simp only []
    split
    · trivial
    · rename_i names e;exact ite_of (GoodPl top) (fun _=>good_function top _ (names_good e) (hb1 h2)) fun _=>trivial
  · intro h2;unfold setP;split
    · trivial
    · rename_i s e;exact ⟨good_plain (.inr (.inr (.inl ⟨.inr (.inl rfl),rfl⟩))) (by decide) (fun _=>nameOf_good e),fun p hp=>(by rw [List.mem_singleton.1 hp];trivial),no9 7 (by decide)⟩
  · intro h2;unfold defineP;cases top with
    | false=>rw [if_pos rfl];trivial
    | true =>
      rw [if_neg (by decide)];refine ite_of (GoodPl true) (fun _=>?_) fun _=>?_
      · unfold defineF;split
        · rename_i s names e1 e2;exact good_definition _ (nameOf_good e1) ⟨names_good e2,hb1 h2⟩
        · trivial
      · split
        · trivial
        · rename_i s e;exact ite_of (GoodPl true) (fun _=>trivial) fun _=>good_definition _ (nameOf_good e) trivial
  · intro h2;unfold letP;split
    · trivial
    · split
      · trivial
      · rename_i names e;exact good_call top _ (names_good e) (hb1 h2) (good_dats _)
  · intro h2;unfold starP;split
    · trivial
    · split
      · trivial
      · rename_i names e;exact good_nested top _ _ _ _ (starG_good _ _ _ e (fun s h=>by cases h)) (hb1 h2)
theorem good_plan (ns:List Nd) (i:Nat) (top:Bool):GoodPl top (plan ns i top):=by
  unfold plan;simp only []
  refine ite_of (GoodPl top) (fun _=>⟨good_frm (.inl ⟨.inl rfl,rfl⟩) (by decide) (by decide) (by decide) (by decide),fun p hp=>(by cases hp),no9 1 (by decide)⟩) fun _=>?_
  refine ite_of (GoodPl top) (fun _=>⟨good_frm (.inl ⟨.inr (.inl rfl),rfl⟩) (by decide) (by decide) (by decide) (by decide),fun p hp=>(by cases hp),no9 2 (by decide)⟩) fun _=>?_
  refine ite_of (GoodPl top) (fun _=>?_) fun _=>good_list ns _ top
  by_cases hr:reserved (ndAt ns i).s=true
  · rw [if_pos hr];trivial
  · rw [if_neg hr];exact ⟨good_plain (.inl ⟨.inr (.inr (.inr rfl)),rfl⟩) (by decide) (fun _=>by simpa using hr),fun p hp=>(by cases hp),no9 4 (by decide)⟩
theorem good_ev (ns:List Nd) {p:Pt} (h:GoodPt p):GoodPl false (ev ns p):=by
  cases p with
  | top i=>exact h.elim
  | dat i=>exact good_plan ns i false
  | seq a l=>exact ⟨good_frm (.inr (.inr (.inr (.inl ⟨rfl,by rw [List.length_map];exact h⟩)))) (by decide) (by decide) (by decide) (by decide),good_dats _,no9 8 (by decide)⟩
  | tr a n=>exact good_truth _ a n
  | kept a=>exact ⟨good_plain (.inl ⟨.inr (.inr (.inr rfl)),rfl⟩) (by decide) (fun _=>res_blank),fun p hp=>(by cases hp),no9 4 (by decide)⟩
  | fn a nm b=>exact good_function _ a h.1 h.2
  | nested a nm vs b=>exact good_nested _ a nm vs b h.1 h.2
  | cond a l=>exact good_cond _ ns a l
  | and a l=>exact good_and _ a l
  | or a l=>exact good_or _ a l
  | orb a l=>exact good_choose _ a trivial trivial trivial
def AllF (st m:List Fm):Prop:=∀ (j:Nat) (h:j < m.length),GoodF m[j] m[j].l.length∧∀ q∈m[j].l,q < st.length+j∧∃ x,(st++m)[q]? = some x∧x.kind≠9
theorem AllF.nil (st:List Fm):AllF st []:=fun j h=>absurd h (by simp)
theorem some_more {l m:List Fm} {q:Nat} {x:Fm} (h:l[q]? = some x):(l++m)[q]? = some x:=by
  have:=(List.getElem?_eq_some_iff.1 h).1;rw [List.getElem?_append_left this];exact h
theorem AllF.app {st m n:List Fm} (h:AllF st m) (k:AllF (st++m) n):AllF st (m++n):=by
  intro j hj;by_cases hm:j < m.length
  · rw [List.getElem_append_left hm];obtain ⟨g1,g2⟩:=h j hm;refine ⟨g1,fun q hq=>?_⟩
    obtain ⟨k1,x,k2,k3⟩:=g2 q hq;exact ⟨k1,x,by rw [← List.append_assoc];exact some_more k2,k3⟩
  · rw [List.length_append] at hj;rw [List.getElem_append_right (by omega)];obtain ⟨g1,g2⟩:=k (j - m.length) (by omega);refine ⟨g1,fun q hq=>?_⟩
    obtain ⟨k1,x,k2,k3⟩:=g2 q hq;exact ⟨by rw [List.length_append] at k1;omega,x,by rw [← List.append_assoc];exact k2,k3⟩
def cnt (m:List Fm) (a:Nat):Nat:=(m.flatMap (·.l)).count a
theorem cnt_app (m n:List Fm) (a:Nat):cnt (m++n) a=cnt m a+cnt n a:=by unfold cnt;rw [List.flatMap_append,List.count_append]
theorem cnt_one (f:Fm) (a:Nat):cnt [f] a=f.l.count a:=by unfold cnt;simp
structure Made (st st':List Fm) (k:Nat) (m:List Fm) (top:Bool):Prop where
  eq:st'=st++m
  last:k+1=st.length+m.length
  pos:1≤m.length
  all:AllF st m
  one:∀ a,cnt m a=if st.length≤a∧a < k then 1 else 0
  kind:∃ x,st'[k]? = some x∧(x.kind=9→top=true)
structure Mades (st st':List Fm) (ks:List Nat) (m:List Fm):Prop where
  eq:st'=st++m
  all:AllF st m
  one:∀ a,cnt m a+ks.count a=if st.length≤a∧a < st.length+m.length then 1 else 0
  kinds:∀ q∈ks,∃ x,st'[q]? = some x∧x.kind≠9
theorem runs_made {F:Pt→List Fm→Except Int (List Fm × Nat)}:∀ (ps:List Pt) (st st':List Fm) (l l':List Nat),(∀ p∈ps,∀ s s' k,F p s = .ok (s',k)→∃ m,Made s s' k m false)→runs F ps st l = .ok (st',l')→∃ m ks,l'=l++ks∧ks.length=ps.length∧Mades st st' ks m:=by
  intro ps;induction ps with
  | nil =>
    intro st st' l l' _ e;simp only [runs,Except.ok.injEq,Prod.mk.injEq] at e
    obtain ⟨rfl,rfl⟩:=e;refine ⟨[],[],by simp,rfl,by simp,AllF.nil _,fun a=>?_,fun q hq=>by cases hq⟩
    show 0+0=_
    rw [if_neg (by simp)]
  | cons p ps ih =>
    intro st st' l l' hF e;unfold runs at e;cases hr:F p st with
    | error a=>rw [hr] at e;cases e
    | ok r =>
      obtain ⟨s1,k⟩:=r;rw [hr] at e;obtain ⟨m1,h1⟩:=hF p (List.mem_cons_self ..) _ _ _ hr;obtain ⟨m2,ks,e1,e2,h2⟩:=ih s1 st' (l++[k]) l' (fun q hq=>hF q (List.mem_cons_of_mem _ hq)) e;have hs1:=h1.eq;subst hs1;refine ⟨m1++m2,k::ks,by rw [e1];simp,by simp [e2],?_,h1.all.app h2.all,fun a=>?_,fun q hq=>?_⟩
      · rw [h2.eq,List.append_assoc]
      · have g1:=h1.one a;have g2:=h2.one a;have g3:=h1.last;have g4:=h1.pos;rw [cnt_app,List.count_cons,List.length_append];rw [List.length_append] at g2;have hb:(if (k == a)=true then 1 else 0)=if k=a then 1 else 0:=by simp
        rw [hb];clear hb;split at g1 <;> split at g2 <;> split <;> split <;> omega
      · rcases List.mem_cons.1 hq with rfl | hq
        · obtain ⟨x,g1,g2⟩:=h1.kind;exact ⟨x,by rw [h2.eq];exact some_more g1,fun h=>by have:=g2 h;cases this⟩
        · exact h2.kinds q hq
theorem run_made {ns:List Nd}:∀ (f:Nat) (p:Pt) (t:Bool),GoodPl t (ev ns p)→∀ (st st':List Fm) (k:Nat),run ns f p st = .ok (st',k)→∃ m,Made st st' k m t:=by
  intro f;induction f with
  | zero=>intro p t _ st st' k e;cases e
  | succ f ih =>
    intro p t hg st st' k e;unfold run at e;generalize ev ns p=pl at hg e;cases pl with
    | bad a=>cases e
    | ins q =>
      obtain ⟨m,h⟩:=ih q false (good_ev ns hg) st st' k e;obtain ⟨x,g1,g2⟩:=h.kind;exact ⟨m,h.eq,h.last,h.pos,h.all,h.one,x,g1,fun h9=>by have:=g2 h9;cases this⟩
    | mk fm ps =>
      obtain ⟨g1,g2,g3⟩:=hg;unfold onPl at e;simp only at e
      cases hr:runs (run ns f) ps st [] with
      | error a=>rw [hr] at e;cases e
      | ok r =>
        obtain ⟨s1,l⟩:=r;rw [hr] at e;simp only [Except.ok.injEq,Prod.mk.injEq] at e
        obtain ⟨rfl,rfl⟩:=e;obtain ⟨m,ks,e1,e2,h⟩:=runs_made ps st s1 [] l (fun q hq s s' k hr=>ih q false (good_ev ns (g2 q hq)) s s' k hr) hr;rw [List.nil_append] at e1;subst e1;have hs:=h.eq;refine ⟨m++[{ fm with l:=l }],by rw [hs,List.append_assoc],by rw [hs];simp;omega,by simp,?_,fun a=>?_,{ fm with l:=l },by simp,g3⟩
        · refine h.all.app fun j hj=>?_
          have:j=0:=by simpa using hj
          subst this;refine ⟨⟨by simp only [List.getElem_cons_zero];rw [e2];exact g1.kind,g1.none,g1.names,g1.name⟩,fun q hq=>?_⟩
          obtain ⟨x,k1,k2⟩:=h.kinds q hq;have hlt:=(List.getElem?_eq_some_iff.1 k1).1;rw [hs] at hlt k1;exact ⟨by omega,x,some_more k1,k2⟩
        · rw [cnt_app,cnt_one,h.one a,hs,List.length_append]
theorem runTops_made {ns:List Nd} (f:Nat):∀ (l:List Nat) (st st':List Fm) (t t':List Nat),runTops ns f l st t = .ok (st',t')→∃ m ks,st'=st++m∧t'=t++ks∧AllF st m∧∀ a,cnt m a+ks.count a=if st.length≤a∧a < st.length+m.length then 1 else 0:=by
  intro l;induction l with
  | nil =>
    intro st st' t t' e;simp only [runTops,Except.ok.injEq,Prod.mk.injEq] at e
    obtain ⟨rfl,rfl⟩:=e;refine ⟨[],[],by simp,by simp,AllF.nil _,fun a=>?_⟩
    show 0+0=_
    rw [if_neg (by simp)]
  | cons i l ih =>
    intro st st' t t' e;unfold runTops at e;cases hr:run ns f (.top i) st with
    | error a=>rw [hr] at e;cases e
    | ok r =>
      obtain ⟨s1,k⟩:=r;rw [hr] at e;obtain ⟨m1,h1⟩:=run_made f (.top i) true (good_plan ns i true) st s1 k hr;obtain ⟨m2,ks,e1,e2,h2,h3⟩:=ih s1 st' _ _ e;have hs1:=h1.eq;subst hs1;refine ⟨m1++m2,k::ks,by rw [e1,List.append_assoc],by rw [e2];simp,h1.all.app h2,fun a=>?_⟩
      have g1:=h1.one a;have g2:=h3 a;have g3:=h1.last;have g4:=h1.pos;rw [cnt_app,List.count_cons,List.length_append];rw [List.length_append] at g2;have hb:(if (k == a)=true then 1 else 0)=if k=a then 1 else 0:=by simp
      rw [hb];clear hb;split at g1 <;> split at g2 <;> split <;> split <;> omega
theorem run_len {ns:List Nd} (hok:Ok ns):∀ (f:Nat) (p:Pt) (st st':List Fm) (k:Nat),run ns f p st = .ok (st',k)→st'.length≤st.length+wt ns p:=by
  intro f;induction f with
  | zero=>intro p st st' k e;cases e
  | succ f ih =>
    intro p st st' k e;have hw:=ev_w hok p;unfold run at e;generalize ev ns p=pl at hw e;cases pl with
    | bad a=>cases e
    | ins q=>have:=ih q st st' k e;simp only [wpl] at hw;omega
    | mk fm ps =>
      simp only [wpl] at hw
      have hps:∀ (ps:List Pt) (st st':List Fm) (l l':List Nat),runs (run ns f) ps st l = .ok (st',l')→st'.length≤st.length+wps ns ps:=by
        intro ps;induction ps with
        | nil=>intro st st' l l' e;simp only [runs,Except.ok.injEq,Prod.mk.injEq] at e;rw [e.1];omega
        | cons q ps ihp =>
          intro st st' l l' e;unfold runs at e;cases hr:run ns f q st with
          | error a=>rw [hr] at e;cases e
          | ok r =>
            obtain ⟨s1,k1⟩:=r;rw [hr] at e;have g1:=ih q st s1 k1 hr;have g2:=ihp s1 st' _ _ e;rw [wps_cons];omega
      unfold onPl at e;simp only at e
      cases hr:runs (run ns f) ps st [] with
      | error a=>rw [hr] at e;cases e
      | ok r =>
        obtain ⟨s1,l⟩:=r;rw [hr] at e;simp only [Except.ok.injEq,Prod.mk.injEq] at e
        obtain ⟨rfl,rfl⟩:=e;have:=hps ps st s1 [] l hr;rw [List.length_append];simp;omega
theorem runTops_len {ns:List Nd} (hok:Ok ns) (f:Nat):∀ (l:List Nat) (st st':List Fm) (t t':List Nat),runTops ns f l st t = .ok (st',t')→st'.length≤st.length+(l.map fun i=>wt ns (.top i)).sum∧t'.length=t.length+l.length:=by
  intro l;induction l with
  | nil=>intro st st' t t' e;simp only [runTops,Except.ok.injEq,Prod.mk.injEq] at e;rw [e.1,e.2];simp
  | cons i l ih =>
    intro st st' t t' e;unfold runTops at e;cases hr:run ns f (.top i) st with
    | error a=>rw [hr] at e;cases e
    | ok r =>
      obtain ⟨s1,k⟩:=r;rw [hr] at e;have g1:=run_len hok f _ st s1 k hr;have g2:=ih s1 st' _ _ e;rw [List.map_cons,List.sum_cons];rw [List.length_append] at g2;simp at g2 ⊢
      omega
theorem rows_self {ns:List Nd} {Q:Int→Prop} (h:∀ i,i < ns.length→Q (ndAt ns i).at_):Rows 0 (fun x _=>Q x) ns ns:=fun i hi=>⟨rfl,h i hi,rfl,rfl,by simp⟩
end EX
end Go.Proofs.YtehgmmbdlnginaaGreatDoor
namespace Go.Proofs.YtehgmmbdlnginaaGreatDoor
open Go.RowKit
namespace EW
open LX SX RW6 EX
open RX (Nd)
end EW
end Go.Proofs.YtehgmmbdlnginaaGreatDoor
namespace Go.Proofs.YtehgmmbdlnginaaGreatDoor
open Go.RowKit
namespace EW
open LX SX RW6 EX
open RX (Nd)
open RM6 (Kin)
section
variable {w0 w:World} {Z:List Nat} {q mb:Nat} {DA:Option Addr} {n c:Nat} {ns:List Nd}
end
end EW
end Go.Proofs.YtehgmmbdlnginaaGreatDoor
namespace Go.Proofs.YtehgmmbdlnginaaGreatDoor
open Go.RowKit
namespace EW
open LX SX RW6 EX
open RX (Nd)
section
variable (w:World) {Z:List Nat} (q:Nat) (hz:∀ b∈Z,b < w.heap.size)
include hz
end
end EW
end Go.Proofs.YtehgmmbdlnginaaGreatDoor
namespace Go.Proofs.YtehgmmbdlnginaaGreatDoor
open Go.RowKit
namespace EW
open LX SX RW6 EX
open RX (Nd)
section
variable (w:World) {Z:List Nat} (q:Nat) (hz:∀ b∈Z,b < w.heap.size)
include hz
end
end EW
end Go.Proofs.YtehgmmbdlnginaaGreatDoor
namespace Go.Proofs.YtehgmmbdlnginaaGreatDoor
open Go.RowKit
namespace EW
open LX SX RW6 EX
open RX (Nd)
section
variable (w:World) {Z:List Nat} (q:Nat) (hz:∀ b∈Z,b < w.heap.size)
include hz
end
end EW
end Go.Proofs.YtehgmmbdlnginaaGreatDoor
namespace Go.Proofs.YtehgmmbdlnginaaGreatDoor
open Go.RowKit
namespace EW
open LX SX RW6 EX
open RX (Nd)
section
variable (w:World) {Z:List Nat} (q:Nat) (hz:∀ b∈Z,b < w.heap.size)
include hz
end
end EW
end Go.Proofs.YtehgmmbdlnginaaGreatDoor
namespace Go.Proofs.YtehgmmbdlnginaaGreatDoor
open Go.RowKit
namespace EW
open LX SX RW6 EX
open RX (Nd)
theorem keep5 {w w':World} {p1 p2 p3 p4 p5:Addr} {v1 v2 v3 v4 v5:Value} (f:MM.Far [] w w') (h:w.cell? p1=some v1∧w.cell? p2=some v2∧w.cell? p3=some v3∧w.cell? p4=some v4∧w.cell? p5=some v5):w'.cell? p1=some v1∧w'.cell? p2=some v2∧w'.cell? p3=some v3∧w'.cell? p4=some v4∧w'.cell? p5=some v5:=⟨far_cell f h.1,keep4 f h.2⟩
theorem keep6 {w w':World} {p0 p1 p2 p3 p4 p5:Addr} {v0 v1 v2 v3 v4 v5:Value} (f:MM.Far [] w w') (h:w.cell? p0=some v0∧w.cell? p1=some v1∧w.cell? p2=some v2∧w.cell? p3=some v3∧w.cell? p4=some v4∧w.cell? p5=some v5):w'.cell? p0=some v0∧w'.cell? p1=some v1∧w'.cell? p2=some v2∧w'.cell? p3=some v3∧w'.cell? p4=some v4∧w'.cell? p5=some v5:=⟨far_cell f h.1,keep5 f h.2⟩
section
variable (w:World) {Z:List Nat} (q:Nat)
variable (hz:∀ b∈Z,b < w.heap.size)
include hz
end
end EW
end Go.Proofs.YtehgmmbdlnginaaGreatDoor
namespace Go.Proofs.YtehgmmbdlnginaaGreatDoor
open Go.RowKit
namespace EW
open LX SX RW6 EX
open RX (Nd)
section
variable {w0 w:World} {Z:List Nat} {q mb:Nat} {DA:Option Addr} {n c:Nat} {ns:List Nd}
end
end EW
end Go.Proofs.YtehgmmbdlnginaaGreatDoor
namespace Go.Proofs.YtehgmmbdlnginaaGreatDoor
open Go.RowKit
namespace EW
open LX SX RW6 EX
open RX (Nd)
theorem sl_at {w:World} {Z:List Nat} {g o n c k:Nat} {vs:List Value} {u:Value} (h:Sl w Z (.slice (some ⟨g,o,none⟩) n c) vs) (hu:vs[k]? = some u):w.cell? ⟨g,o+k,none⟩=some u:=by
  obtain ⟨A',c',e,_,_,h3⟩:=h;injection e with e1;obtain ⟨g',o',e2,_,_,hc⟩:=h3 k u hu;rw [← e1] at e2;injection e2 with e2;injection e2 with ea eb;subst ea;subst eb;exact hc
section
variable (w:World) {Z:List Nat} (q:Nat) (hz:∀ b∈Z,b < w.heap.size)
include hz
variable {ns:List Nd}
end
end EW
end Go.Proofs.YtehgmmbdlnginaaGreatDoor
namespace Go.Proofs.YtehgmmbdlnginaaGreatDoor
open Go.RowKit
namespace EW
open LX SX RW6 EX
open RX (Nd)
section
variable (w:World) {Z:List Nat} (q:Nat) (hz:∀ b∈Z,b < w.heap.size)
include hz
end
end EW
end Go.Proofs.YtehgmmbdlnginaaGreatDoor
namespace Go.Proofs.YtehgmmbdlnginaaGreatDoor
open Go.RowKit
namespace EW
open LX SX RW6 EX
open RX (Nd)
section
variable {w0 w:World} {Z:List Nat} {q mb:Nat} {DA:Option Addr} {n c:Nat} {ns:List Nd}
end
end EW
end Go.Proofs.YtehgmmbdlnginaaGreatDoor
namespace Go.Proofs.YtehgmmbdlnginaaGreatDoor
open Go.RowKit
namespace EW
open LX SX RW6 EX
open RX (Nd)
section
variable {w0 w:World} {Z:List Nat} {q mb:Nat} {DA:Option Addr} {n c:Nat} {ns:List Nd}
end
end EW
end Go.Proofs.YtehgmmbdlnginaaGreatDoor
namespace Go.Proofs.YtehgmmbdlnginaaGreatDoor
open Go.RowKit
namespace EW
open LX SX RW6 EX
open RX (Nd)
def letN (a:Int) (r vs:List Nat):Option (List ByteArray)→Pl
  | none=>.bad a
  | some names=>call a names (body a r) (vs.map .dat)
def letR (ns:List Nd) (a:Int) (r:List Nat):Option (List Nat × List Nat)→Pl
  | none=>.bad a
  | some (bs,vs)=>letN a r vs (namesOf ns bs)
theorem letP_eq (ns:List Nd) (a:Int) (x:Nat) (r:List Nat):letP ns a (x::r)=letR ns a r (pairsOf ns x):=by
  unfold letP letR;simp only [List.getD_cons_zero,List.drop_succ_cons,List.drop_zero]
  cases pairsOf ns x with
  | none=>rfl
  | some p =>
    obtain ⟨bs,vs⟩:=p;simp only []
    unfold letN;cases namesOf ns bs <;> rfl
section
variable {w0 w:World} {Z:List Nat} {q mb:Nat} {DA:Option Addr} {n c:Nat} {ns:List Nd}
end
end EW
end Go.Proofs.YtehgmmbdlnginaaGreatDoor
namespace Go.Proofs.YtehgmmbdlnginaaGreatDoor
open Go.RowKit
namespace EW
open LX SX RW6 EX
open RX (Nd)
def starN (a:Int) (r vs:List Nat):Option (List ByteArray)→Pl
  | none=>.bad a
  | some names=>nestedP a names vs (body a r)
def starR (ns:List Nd) (a:Int) (r:List Nat):Option (List Nat × List Nat)→Pl
  | none=>.bad a
  | some (bs,vs)=>starN a r vs (starG ns bs [])
theorem starP_eq (ns:List Nd) (a:Int) (x:Nat) (r:List Nat):starP ns a (x::r)=starR ns a r (pairsOf ns x):=by
  unfold starP starR;simp only [List.getD_cons_zero,List.drop_succ_cons,List.drop_zero]
  cases pairsOf ns x with
  | none=>rfl
  | some p =>
    obtain ⟨bs,vs⟩:=p;simp only []
    unfold starN;cases starG ns bs [] <;> rfl
section
variable {w0 w:World} {Z:List Nat} {q mb:Nat} {DA:Option Addr} {n c:Nat} {ns:List Nd}
end
end EW
end Go.Proofs.YtehgmmbdlnginaaGreatDoor
namespace Go.Proofs.YtehgmmbdlnginaaGreatDoor
open Go.RowKit
namespace EW
open LX SX RW6 EX
open RX (Nd)
open RM6 (Kin)
def inRange (N:Int) (zs:List Int):Bool:=zs.all fun z=>decide (0≤z∧z < N)
end EW
end Go.Proofs.YtehgmmbdlnginaaGreatDoor
namespace Go.Proofs.YtehgmmbdlnginaaGreatDoor
open Go.RowKit
namespace EW
open LX SX RW6 EX
open RX (Nd)
open RM6 (Kin)
end EW
end Go.Proofs.YtehgmmbdlnginaaGreatDoor
namespace Go.Proofs.YtehgmmbdlnginaaGreatDoor
namespace EX
open LX RX SX
theorem ch_T {ns:List Nd} {P:Nat→Nat→Prop} (hP:∀ b c,P b c→T ns c+b=c+1∧b≤c) {a b:Nat} {l:List Nat} (h:Ch P a b l):(l.map (T ns)).sum+a=b∧a≤b:=by
  induction h with
  | nil=>simp
  | snoc k hp ih =>
    obtain ⟨h1,h2⟩:=hP _ _ hp;rw [List.map_append,List.sum_append,List.map_cons,List.map_nil,List.sum_cons,List.sum_nil];omega
theorem dat_T {ns:List Nd} (hok:Ok ns):∀ k b c,Dat ns k b c→T ns c+b=c+1∧b≤c:=by
  intro k;have leaf:∀ c x,ns[c]? = some x→Leaf x→T ns c=1:=fun c x hx hl=>by
    have hc:=(List.getElem?_eq_some_iff.1 hx).1;have e:ndAt ns c=x:=by
      unfold ndAt;rw [List.getD_eq_getElem?_getD,hx];rfl
    have hl2:x.l=[]:=by
      rcases hl with h | h | h
      · exact h.2.2.1
      · exact h.2.2.2
      · exact h.2.2.1
    rw [T_eq hok hc,e,hl2];simp
  induction k with
  | zero =>
    rintro b c ⟨rfl,x,h1,h2⟩;rw [leaf _ x h1 h2];omega
  | succ k ih =>
    rintro b c (⟨rfl,x,h1,h2⟩ | ⟨x,h1,h2,h3,h4,h5⟩)
    · rw [leaf _ x h1 h2];omega
    · have hc:=(List.getElem?_eq_some_iff.1 h1).1;have e:ndAt ns c=x:=by
        unfold ndAt;rw [List.getD_eq_getElem?_getD,h1];rfl
      have:=ch_T ih h5;rw [T_eq hok hc,e];omega
theorem sum_mem {l:List Nat} {f:Nat→Nat} {i:Nat} (h:i∈l):f i≤(l.map f).sum:=by
  induction l with
  | nil=>cases h
  | cons a l ih =>
    rw [List.map_cons,List.sum_cons]
    rcases List.mem_cons.1 h with rfl | h
    · omega
    · have:=ih h;omega
theorem read_T {s:ByteArray} {r:Rd} (h:read s = .ok r):(r.tops.map (T r.row)).sum=r.row.length:=by
  have:=ch_T (dat_T (read_ok_data h) 50) (read_dat h);omega
theorem read_tops_lt {s:ByteArray} {r:Rd} (h:read s = .ok r):∀ i∈r.tops,i < r.row.length:=fun _ hi=>(read_plain h).1.lt (.inl hi)
theorem sum_wt (ns:List Nd) (l:List Nat):(l.map fun i=>wt ns (.top i)).sum≤16*(l.map (T ns)).sum:=by
  induction l with
  | nil=>simp
  | cons a l ih =>
    rw [List.map_cons,List.sum_cons,List.map_cons,List.sum_cons];have:wt ns (.top a)=16*T ns a - 8:=rfl;omega
theorem read_len {s:ByteArray} {r:Rd} (h:read s = .ok r):r.row.length≤2*s.size:=by
  obtain ⟨ts,h1,h2,_⟩:=read_ok h;have hl:=lex_len h1;have:=tokens_bd ts (r:=⟨[],[],[]⟩) (n:=0) ⟨by simp,by simp,by simp⟩ h2;have h4:=this.sum;omega
end EX
end Go.Proofs.YtehgmmbdlnginaaGreatDoor
namespace Go.Proofs.YtehgmmbdlnginaaGreatDoor
open Go.RowKit
namespace EW
open LX SX RW6 EX
open RX (Nd Rd)
open RM6 (Kin ndC kinsN)
def zI (l:List Nat):List Int:=l.map fun n=>((n:Nat):Int)
theorem zI_nums (l:List Nat):(zI l).map num=ints l:=by unfold zI ints num;rw [List.map_map];rfl
theorem zI_back (l:List Nat):(zI l).map Int.toNat=l:=by
  unfold zI;rw [List.map_map];conv=>rhs;rw [← List.map_id l]
  exact List.map_congr_left (fun x _=>by simp)
theorem zI_len (l:List Nat):(zI l).length=l.length:=by unfold zI;rw [List.length_map]
theorem done_rows {w0 w:World} {rv tv:Value} {rs:List (Nd × Value)} {tops:List Nat} (h:Done w0 w rv tv rs tops):∃ A c,rv = .slice A rs.length c∧NdR w A (rs.map (·.1)):=by
  obtain ⟨A,c,rfl,k0,k1,k2,k3,hh⟩:=MO.form h.row;refine ⟨A,c,rfl,fun k hk=>?_⟩
  have hk2:k < rs.length:=by simpa using hk
  rcases hh with ⟨_,hz,_⟩ | ⟨g,rfl,_,hlt⟩
  · omega
  obtain ⟨LA,lc,e,l1,l2,_,hI⟩:=own_ints (h.kin.each (rs[k].2,rs[k].1.l) (by
    refine List.mem_cons_of_mem _ ?_
    unfold kinsN;exact List.mem_map.2 ⟨rs[k],List.getElem_mem hk2,rfl⟩))
  have c (j:Nat) (hj:j < 5) (u:Value) (hu:([.int .u8 rs[k].1.kind,.int .i64 rs[k].1.at_,.int .i64 rs[k].1.n,.string rs[k].1.s,rs[k].2]:List Value)[j]? = some u):w.cell? ⟨g,0+k*5+j,none⟩=some u:=by
    have:=@World.ownsRow.cells w _ _ _ _ _ _ h.row g rfl (k*5+j) u ((ndC_at rs k hk2 j hj).trans hu);rw [MM.head_add] at this;rw [Nat.zero_add];exact this
  have em:(rs.map (·.1))[k]=rs[k].1:=by simp
  rw [em];exact ⟨g,0,LA,lc,rfl,hlt,c 0 (by omega) _ rfl,c 1 (by omega) _ rfl,c 2 (by omega) _ rfl,c 3 (by omega) _ rfl,(c 4 (by omega) _ rfl).trans (congrArg some e),l1,l2,hI⟩
theorem NdR.row {w:World} {A:Option Addr} {ns:List Nd} (h:NdR w A ns):NdRow w A ns:=fun k hk=>by
  obtain ⟨b,o,LA,c,e,hb,c0,c1,c2,c3,c4,k1,k2,hI⟩:=h k hk;exact ⟨b,o,LA,c,e,hb,c0,c1,c2,c3,c4,hI⟩
theorem inRange_of {n:Nat} {l:List Nat} (h:∀ i∈l,i < n):inRange (n:Int) (zI l)=true:=by
  unfold inRange zI;rw [List.all_eq_true];intro z hz;obtain ⟨i,hi,rfl⟩:=List.mem_map.1 hz;have:=h i hi;exact decide_eq_true (by omega)
theorem ndAt_all {ns:List Nd} {Q:Nd→Prop} (h:∀ x∈ns,Q x) (h0:Q ⟨0,0,0,emp,[]⟩) (i:Nat):Q (ndAt ns i):=by
  unfold ndAt;rw [List.getD_eq_getElem?_getD];cases hx:ns[i]? with
  | none=>exact h0
  | some x=>exact h x (List.mem_of_getElem? hx)
end EW
end Go.Proofs.YtehgmmbdlnginaaGreatDoor
namespace Go.Proofs.YtehgmmbdlnginaaGreatDoor
open Go.RowKit
namespace EW
open LX SX RW6 EX
open RX (Nd Rd)
open RM6 (Kin)
theorem fmC_at:∀ (rs:List (Fm × Value × Value)) (k:Nat) (h:k < rs.length) (j:Nat) (_:j < 8),(fmC rs)[k*8+j]? = (fmL rs[k])[j]?:=by
  intro rs;induction rs with
  | nil=>intro k h;simp at h
  | cons x rs ih =>
    intro k h j hj;have e:fmC (x::rs)=fmL x++fmC rs:=by simp [fmC]
    have hl:(fmL x).length=8:=rfl;rw [e];cases k with
    | zero=>rw [Nat.zero_mul,Nat.zero_add,List.getElem?_append_left (by omega)];rfl
    | succ k =>
      rw [List.getElem?_append_right (by omega),hl];have:=ih k (by simpa using h) j hj;rw [show (k+1)*8+j - 8=k*8+j from by omega,this];rfl
end EW
end Go.Proofs.YtehgmmbdlnginaaGreatDoor
namespace Go.Proofs.YtehgmmbdlnginaaGreatDoor
open Go.RowKit
namespace EW
open LX SX RW6 EX
open RX (Nd Rd)
def n0:Value:=.slice none 0 0
end EW
end Go.Proofs.YtehgmmbdlnginaaGreatDoor
namespace Go.Proofs.YtehgmmbdlnginaaGreatDoor
namespace EX
open LX RX SX
theorem read_wt {s:ByteArray} {r:Rd} (h:read s = .ok r):∀ i∈r.tops,i < r.row.length∧wt r.row (.top i)≤16*r.row.length:=fun i hi=>by
  refine ⟨read_tops_lt h i hi,?_⟩
  have h1:=sum_mem (f:=fun i=>T r.row i) hi;have h2:=read_T h;have:wt r.row (.top i)=16*T r.row i - 8:=rfl;have h3:T r.row i≤(r.tops.map (T r.row)).sum:=h1;omega
end EX
end Go.Proofs.YtehgmmbdlnginaaGreatDoor
namespace Go.Proofs.YtehgmmbdlnginaaGreatDoor
open Go.RowKit
set_option linter.unusedVariables false
namespace EW
open LX SX RW6 EX
open RX (Nd Rd)
open RM6 (Kin)
section
variable {w0 w w1:World} {E:List Nat} {q:Nat} {DA:Option Addr} {n c:Nat} {ns:List Nd} {dv fv:Value} {bad:Int} {rs:List (Fm × Value × Value)} {X:Except Int (List Fm)} {B:Nat}
theorem form_allD (D:Dta w0 DA n ns):∀ N,FormC w0 q DA n c ns N:=by
  intro N E w fv X B i top hi hN hB h;obtain ⟨b,o,rfl⟩:=h.dsome D hi;exact form_all D N E w fv X B i top hi hN hB h
theorem Dta.to (D:Dta w0 DA n ns) (f:MM.Far [] w0 w1):Dta w1 DA n ns:=⟨D.nd.far f,D.len,D.ok,D.s3,D.few,D.at0,D.leaf⟩
theorem Rx.start (w:World) (DA:Option Addr) (n c:Nat):Rx w (w.alloc (.cells #[.slice DA n c,.slice none 0 0,.int .i64 (-1)] 87)) [] w.heap.size (.slice DA n c) (.slice none 0 0) (-1) [] :=
  ⟨(MM.Far.refl [] w).alloc _,Nat.le_refl _,MM.Row.new w 87 [.slice DA n c,.slice none 0 0,.int .i64 (-1)],MO.none_ _ _ _ _,fun x hx=>absurd hx (by simp),fun b hb=>absurd hb (by simp)⟩
end
end EW
end Go.Proofs.YtehgmmbdlnginaaGreatDoor
namespace Go.Proofs.YtehgmmbdlnginaaGreatDoor
open Go.RowKit
set_option linter.unusedVariables false
namespace EX
open LX RX SX
theorem nodup_le3:∀ (n:Nat) (l:List Nat),l.Nodup→(∀ a∈l,a < n)→l.length≤n:=by
  intro n;induction n with
  | zero =>
    intro l _ h;cases l with
    | nil=>exact Nat.le_refl _
    | cons a l=>have:=h a (List.mem_cons_self ..);omega
  | succ n ih =>
    intro l hn h;have h1:=ih (l.erase n) (hn.erase n) (fun a ha=>by
      have h2:=(hn.mem_erase_iff).1 ha;have:=h a h2.2;have:=h2.1;omega)
    by_cases hm:n∈l
    · rw [List.length_erase_of_mem hm] at h1;omega
    · rw [List.erase_of_not_mem hm] at h1;omega
theorem wt_T (ns:List Nd) (i:Nat):wt ns (.top i)=16*T ns i - 8:=rfl
theorem may_ok {ns:List Ni} (h:may ns=true):∀ x∈ns,okF x.kind x.at_ x.n x.s x.l.length=true:=by
  intro x hx;obtain ⟨k,hk,rfl⟩:=List.getElem_of_mem hx;have:∀ (xs:List Ni) (i:Nat) (tk:List Bool),mayG xs i tk=true→∀ (k:Nat) (h:k < xs.length),okF xs[k].kind xs[k].at_ xs[k].n xs[k].s xs[k].l.length=true:=by
    intro xs;induction xs with
    | nil=>intro i tk _ k h;simp at h
    | cons x xs ih =>
      intro i tk h k hk;unfold mayG at h;split at h
      · cases h
      · rename_i hok;split at h
        · cases h
        · cases k with
          | zero=>simpa using hok
          | succ k=>exact ih _ _ h k (by simpa using hk)
  exact this ns 0 _ h k hk
theorem okF_at {kd at_ n:Int} {s:ByteArray} {len:Nat} (h:okF kd at_ n s len=true):0≤at_∧(kd≠3→s=emp)∧(kd≠4→len=0):=by
  unfold okF at h;by_cases h0:at_ < 0
  · rw [if_pos h0] at h;cases h
  rw [if_neg h0] at h;refine ⟨by omega,fun h3=>?_,fun h4=>?_⟩
  · by_cases h1:kd=1
    · rw [if_pos h1] at h;simp only [Bool.and_eq_true,decide_eq_true_eq] at h
      exact EW.size_zero h.1
    rw [if_neg h1] at h;by_cases h2:kd=2
    · rw [if_pos h2] at h;simp only [Bool.and_eq_true,decide_eq_true_eq] at h
      exact EW.size_zero h.1.2
    rw [if_neg h2,if_neg h3] at h;by_cases h4:kd=4
    · rw [if_pos h4] at h;simp only [Bool.and_eq_true,decide_eq_true_eq] at h
      exact EW.size_zero h.2
    rw [if_neg h4] at h;cases h
  · by_cases h1:kd=1
    · rw [if_pos h1] at h;simp only [Bool.and_eq_true,decide_eq_true_eq] at h
      exact h.2
    rw [if_neg h1] at h;by_cases h2:kd=2
    · rw [if_pos h2] at h;simp only [Bool.and_eq_true,decide_eq_true_eq] at h
      exact h.2
    rw [if_neg h2] at h;by_cases h3:kd=3
    · rw [if_pos h3] at h;simp only [Bool.and_eq_true,decide_eq_true_eq] at h
      exact h.2
    rw [if_neg h3,if_neg h4] at h;cases h
end EX
namespace EW
open LX SX RW6 EX
open RX (Nd Rd)
open RM6 (Kin)
theorem dta_of {w:World} {DA:Option Addr} {n:Nat} {ns:List Nd} (hN:NdR w DA ns) (hn:ns.length=n) (hok:Ok ns) (hm:RX.may (ns.map RX.toI)=true) (hl:∀ x∈ns,x.l.length≤100000):Dta w DA n ns:=by
  have h1:∀ x∈ns,0≤x.at_∧(x.kind≠3→x.s=emp)∧(x.kind≠4→x.l=[]):=fun x hx=>by
    have:=okF_at (may_ok hm (RX.toI x) (List.mem_map_of_mem hx));refine ⟨this.1,this.2.1,fun h4=>List.eq_nil_of_length_eq_zero ?_⟩
    have h5:=this.2.2 h4;simpa [RX.toI] using h5
  exact ⟨hN,hn,hok,fun i=>ndAt_all (Q:=fun x=>x.kind≠3→x.s=emp) (fun x hx=>(h1 x hx).2.1) (fun _=>rfl) i,fun i=>ndAt_all (Q:=fun x=>x.l.length≤100000) hl (by simp) i,
    fun i=>ndAt_all (Q:=fun x=>0≤x.at_) (fun x hx=>(h1 x hx).1) (by simp) i,fun i=>ndAt_all (Q:=fun x=>x.kind≠4→x.l=[]) (fun x hx=>(h1 x hx).2.2) (fun _=>rfl) i⟩
end EW
end Go.Proofs.YtehgmmbdlnginaaGreatDoor
