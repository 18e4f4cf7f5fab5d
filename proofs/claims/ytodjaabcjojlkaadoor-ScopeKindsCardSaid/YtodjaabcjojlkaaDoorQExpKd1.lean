/-
  Layer 8 in plain words: which forms there are, and that each is a part of one alone. No condition.
-/
import Derived.Test.YtodjaabcjojlkaaDoorQExpRel
namespace Go.Proofs.YtodjaabcjojlkaaDoor
namespace EX
open LX RX SX
structure GoodN (l:List ByteArray):Prop where
  nodup:l.Nodup
  res:∀ s∈l,reserved s=false
  few:l.length≤100
def GoodPt:Pt→Prop
  | .top _=>False
  | .seq _ l=>2≤l.length
  | .fn _ ns b=>GoodN ns∧GoodPt b
  | .nested _ ns _ b=>(∀ s∈ns,reserved s=false)∧GoodPt b
  | _=>True
def GoodK (kind:Int) (n:Nat):Prop:=((kind=1∨kind=2∨kind=3∨kind=4)∧n=0)∨(kind=5∧n=3)∨((kind=6∨kind=7∨kind=9)∧n=1)∨(kind=8∧2≤n)∨(kind=10∧1≤n)
structure GoodF (f:Fm) (n:Nat):Prop where
  kind:GoodK f.kind n
  none:f.kind≠6→f.p=[]
  names:GoodN f.p
  name:f.kind=4∨f.kind=7∨f.kind=9→reserved f.s=false
def GoodPl (top:Bool):Pl→Prop
  | .bad _=>True
  | .mk f ps=>GoodF f ps.length∧(∀ p∈ps,GoodPt p)∧(f.kind=9→top=true)
  | .ins q=>GoodPt q
theorem no9 (k:Int) (hk:k≠9) {t:Bool}:k=9→t=true:=fun h=>absurd h hk
theorem goodN_nil:GoodN []:=⟨List.nodup_nil,fun _ h=>(by cases h),by simp⟩
theorem good_plain {kind a n:Int} {s:ByteArray} {m:Nat} (hk:GoodK kind m) (_:kind≠6) (hs:kind=4∨kind=7∨kind=9→reserved s=false):GoodF ⟨kind,a,n,s,[],[]⟩ m:=⟨hk,fun _=>rfl,goodN_nil,hs⟩
theorem res_blank:reserved blank=false:=by decide
theorem good_frm {kind a n:Int} {m:Nat} (hk:GoodK kind m) (h6:kind≠6) (h4:kind≠4) (h7:kind≠7) (h9:kind≠9):GoodF (frm kind a n) m:=good_plain hk h6 (fun h=>by omega)
theorem good_body (a:Int) {l:List Nat} (h:1≤l.length):GoodPt (body a l):=by
  match l,h with
  | [x],_=>trivial
  | x::y::t,_=>show 2≤(x::y::t).length;simp
theorem good_dats (l:List Nat):∀ p∈l.map Pt.dat,GoodPt p:=by
  intro p hp;obtain ⟨i,_,rfl⟩:=List.mem_map.1 hp;trivial
theorem good_choose (t:Bool) (a:Int) {x y z:Pt} (hx:GoodPt x) (hy:GoodPt y) (hz:GoodPt z):GoodPl t (choosePl a x y z):=by
  refine ⟨good_frm (.inr (.inl ⟨rfl,rfl⟩)) (by decide) (by decide) (by decide) (by decide),fun p hp=>?_,no9 5 (by decide)⟩
  simp only [List.mem_cons,List.not_mem_nil,or_false] at hp
  rcases hp with rfl | rfl | rfl
  · exact hx
  · exact hy
  · exact hz
theorem good_truth (t:Bool) (a n:Int):GoodPl t (truth a n):=⟨good_frm (.inl ⟨.inr (.inl rfl),rfl⟩) (by decide) (by decide) (by decide) (by decide),fun p hp=>(by cases hp),no9 2 (by decide)⟩
theorem good_function (t:Bool) (a:Int) {ns:List ByteArray} {b:Pt} (hn:GoodN ns) (hb:GoodPt b):GoodPl t (function a ns b):=by
  refine ⟨⟨.inr (.inr (.inl ⟨.inl rfl,rfl⟩)),fun h=>absurd rfl h,hn,fun h=>?_⟩,fun p hp=>?_,no9 6 (by decide)⟩
  · rcases h with h | h | h
    · exact absurd (show (6:Int)=4 from h) (by decide)
    · exact absurd (show (6:Int)=7 from h) (by decide)
    · exact absurd (show (6:Int)=9 from h) (by decide)
  · rw [List.mem_singleton.1 hp];exact hb
theorem good_call (t:Bool) (a:Int) {ns:List ByteArray} {b:Pt} {vs:List Pt} (hn:GoodN ns) (hb:GoodPt b) (hv:∀ p∈vs,GoodPt p):GoodPl t (call a ns b vs):=by
  refine ⟨good_frm (.inr (.inr (.inr (.inr ⟨rfl,by simp⟩)))) (by decide) (by decide) (by decide) (by decide),fun p hp=>?_,no9 10 (by decide)⟩
  rcases List.mem_cons.1 hp with rfl | hp
  · exact ⟨hn,hb⟩
  · exact hv p hp
theorem good_definition (a:Int) {s:ByteArray} {v:Pt} (hs:reserved s=false) (hv:GoodPt v):GoodPl true (definition a s v) :=
  ⟨good_plain (.inr (.inr (.inl ⟨.inr (.inr rfl),rfl⟩))) (by decide) (fun _=>hs),fun p hp=>by rw [List.mem_singleton.1 hp];exact hv,fun _=>rfl⟩
theorem goodN_one {s:ByteArray} (h:reserved s=false):GoodN [s]:=⟨by simp,fun x hx=>by rw [List.mem_singleton.1 hx];exact h,by simp⟩
theorem good_nested (t:Bool) (a:Int) (names:List ByteArray) (vs:List Nat) (b:Pt) (hn:∀ s∈names,reserved s=false) (hb:GoodPt b):GoodPl t (nestedP a names vs b):=by
  match names,vs,hn with
  | [],_,_=>exact hb
  | _::_,[],_=>exact hb
  | n::ns,v::vs,hn=>exact good_call t a (goodN_one (hn n (List.mem_cons_self ..))) ⟨fun s hs=>hn s (List.mem_cons_of_mem _ hs),hb⟩ (fun p hp=>by rw [List.mem_singleton.1 hp];trivial)
theorem good_and (t:Bool) (a:Int) (l:List Nat):GoodPl t (andP a l):=by
  match l with
  | []=>exact good_truth t a 1
  | [x]=>trivial
  | x::y::l=>exact good_choose t a trivial trivial trivial
theorem good_or (t:Bool) (a:Int) (l:List Nat):GoodPl t (orP a l):=by
  match l with
  | []=>exact good_truth t a 0
  | [x]=>trivial
  | x::y::l=>exact good_call t a (goodN_one res_blank) trivial (fun p hp=>by rw [List.mem_singleton.1 hp];trivial)
theorem good_cond (t:Bool) (ns:List Nd) (a:Int) (l:List Nat):GoodPl t (condP ns a l):=by
  match l with
  | []=>exact good_truth t a 0
  | c::cs =>
    unfold condP;simp only []
    refine ite_of (GoodPl t) (fun _=>trivial) fun h2=>?_
    have hb:=good_body (ndAt ns c).at_ (l:=(ndAt ns c).l.drop 1) (by rw [List.length_drop];omega);exact ite_of (GoodPl t) (fun _=>good_choose t a trivial hb trivial) fun _=>ite_of (GoodPl t) (fun _=>trivial) fun _=>hb
theorem nameOf_good {ns:List Nd} {i:Nat} {s:ByteArray} (h:nameOf ns i=some s):reserved s=false:=by
  unfold nameOf at h;split at h
  · cases h
  · rename_i hn;injection h with h;subst h;cases hr:reserved (ndAt ns i).s with
    | false=>rfl
    | true=>exact absurd (.inr hr) hn
theorem namesG_good {ns:List Nd}:∀ (l:List Nat) (acc out:List ByteArray),namesG ns l acc=some out→GoodN acc→GoodN out:=by
  intro l;induction l with
  | nil=>intro acc out e h;simp only [namesG,Option.some.injEq] at e;subst e;exact h
  | cons i l ih =>
    intro acc out e h;unfold namesG at e;split at e
    · cases e
    · rename_i s hs;split at e
      · cases e
      · rename_i hn;refine ih _ _ e ⟨?_,fun x hx=>?_,by have:=h.few;rw [List.length_append];simp;omega⟩
        · rw [List.nodup_append];refine ⟨h.nodup,by simp,fun a ha b hb e=>?_⟩
          rw [List.mem_singleton.1 hb] at e;subst e;exact hn (.inr ha)
        · rcases List.mem_append.1 hx with hx | hx
          · exact h.res x hx
          · rw [List.mem_singleton.1 hx];exact nameOf_good hs
theorem names_good {ns:List Nd} {l:List Nat} {out:List ByteArray} (h:namesOf ns l=some out):GoodN out:=namesG_good l [] out h goodN_nil
theorem starG_good {ns:List Nd}:∀ (l:List Nat) (acc out:List ByteArray),starG ns l acc=some out→(∀ s∈acc,reserved s=false)→∀ s∈out,reserved s=false:=by
  intro l;induction l with
  | nil=>intro acc out e h;simp only [starG,Option.some.injEq] at e;subst e;exact h
  | cons i l ih =>
    intro acc out e h;unfold starG at e;split at e
    · cases e
    · rename_i s hs;refine ih _ _ e fun x hx=>?_
      rcases List.mem_append.1 hx with hx | hx
      · exact h x hx
      · rw [List.mem_singleton.1 hx];exact nameOf_good hs
theorem good_list (ns:List Nd) (d:Nd) (top:Bool):GoodPl top (listP ns d top):=by
  unfold listP;refine ite_of (GoodPl top) (fun _=>trivial) fun hne=>?_
  refine ite_of (GoodPl top) (fun _=>?_) fun _=>⟨good_frm (.inr (.inr (.inr (.inr ⟨rfl,by rw [List.length_map];exact List.length_pos_iff.2 hne⟩)))) (by decide) (by decide) (by decide) (by decide),good_dats _,no9 10 (by decide)⟩
  generalize d.l.drop 1=r;have hb1:2≤r.length→GoodPt (body d.at_ (r.drop 1)):=fun h=>good_body _ (by rw [List.length_drop];omega)
  refine shape_of (GoodPl top) trivial (fun _=>⟨good_frm (.inl ⟨.inr (.inr (.inl rfl)),rfl⟩) (by decide) (by decide) (by decide) (by decide),fun p hp=>(by cases hp),no9 3 (by decide)⟩) ?_ ?_ ?_ (fun h=>good_body _ h) ?_ ?_ ?_ (fun _=>good_cond top ns _ _) (good_and top _ _) (good_or top _ _) (fun h=>good_choose top _ trivial (hb1 h) trivial) (fun h=>good_choose top _ trivial trivial (hb1 h))
  · intro _ _;exact good_choose top _ trivial trivial (ite_of GoodPt (fun _=>trivial) fun _=>trivial)
  · intro h2;unfold lambdaP;simp only []
    split
    · trivial
    · rename_i names e;exact ite_of (GoodPl top) (fun _=>good_function top _ (names_good e) (hb1 h2)) fun _=>trivial
  · intro h2;unfold setP;split
    · trivial
    · rename_i s e;exact ⟨good_plain (.inr (.inr (.inl ⟨.inr (.inl rfl),rfl⟩))) (by decide) (fun _=>nameOf_good e),fun p hp=>(by rw [List.mem_singleton.1 hp];trivial),no9 7 (by decide)⟩
  · intro h2;unfold defineP;cases top with
    | false=>rw [if_pos rfl];trivial
    | true =>
      rw [if_neg (by decide)];refine ite_of (GoodPl true) (fun _=>?_) fun _=>?_
      · unfold defineF;split
        · rename_i s names e1 e2;exact good_definition _ (nameOf_good e1) ⟨names_good e2,hb1 h2⟩
        · trivial
      · split
        · trivial
        · rename_i s e;exact ite_of (GoodPl true) (fun _=>trivial) fun _=>good_definition _ (nameOf_good e) trivial
  · intro h2;unfold letP;split
    · trivial
    · split
      · trivial
      · rename_i names e;exact good_call top _ (names_good e) (hb1 h2) (good_dats _)
  · intro h2;unfold starP;split
    · trivial
    · split
      · trivial
      · rename_i names e;exact good_nested top _ _ _ _ (starG_good _ _ _ e (fun s h=>by cases h)) (hb1 h2)
theorem good_plan (ns:List Nd) (i:Nat) (top:Bool):GoodPl top (plan ns i top):=by
  unfold plan;simp only []
  refine ite_of (GoodPl top) (fun _=>⟨good_frm (.inl ⟨.inl rfl,rfl⟩) (by decide) (by decide) (by decide) (by decide),fun p hp=>(by cases hp),no9 1 (by decide)⟩) fun _=>?_
  refine ite_of (GoodPl top) (fun _=>⟨good_frm (.inl ⟨.inr (.inl rfl),rfl⟩) (by decide) (by decide) (by decide) (by decide),fun p hp=>(by cases hp),no9 2 (by decide)⟩) fun _=>?_
  refine ite_of (GoodPl top) (fun _=>?_) fun _=>good_list ns _ top
  by_cases hr:reserved (ndAt ns i).s=true
  · rw [if_pos hr];trivial
  · rw [if_neg hr];exact ⟨good_plain (.inl ⟨.inr (.inr (.inr rfl)),rfl⟩) (by decide) (fun _=>by simpa using hr),fun p hp=>(by cases hp),no9 4 (by decide)⟩
theorem good_ev (ns:List Nd) {p:Pt} (h:GoodPt p):GoodPl false (ev ns p):=by
  cases p with
  | top i=>exact h.elim
  | dat i=>exact good_plan ns i false
  | seq a l=>exact ⟨good_frm (.inr (.inr (.inr (.inl ⟨rfl,by rw [List.length_map];exact h⟩)))) (by decide) (by decide) (by decide) (by decide),good_dats _,no9 8 (by decide)⟩
  | tr a n=>exact good_truth _ a n
  | kept a=>exact ⟨good_plain (.inl ⟨.inr (.inr (.inr rfl)),rfl⟩) (by decide) (fun _=>res_blank),fun p hp=>(by cases hp),no9 4 (by decide)⟩
  | fn a nm b=>exact good_function _ a h.1 h.2
  | nested a nm vs b=>exact good_nested _ a nm vs b h.1 h.2
  | cond a l=>exact good_cond _ ns a l
  | and a l=>exact good_and _ a l
  | or a l=>exact good_or _ a l
  | orb a l=>exact good_choose _ a trivial trivial trivial
def AllF (st m:List Fm):Prop:=∀ (j:Nat) (h:j < m.length),GoodF m[j] m[j].l.length∧∀ q∈m[j].l,q < st.length+j∧∃ x,(st++m)[q]? = some x∧x.kind≠9
theorem AllF.nil (st:List Fm):AllF st []:=fun j h=>absurd h (by simp)
theorem some_more {l m:List Fm} {q:Nat} {x:Fm} (h:l[q]? = some x):(l++m)[q]? = some x:=by
  have:=(List.getElem?_eq_some_iff.1 h).1;rw [List.getElem?_append_left this];exact h
theorem AllF.app {st m n:List Fm} (h:AllF st m) (k:AllF (st++m) n):AllF st (m++n):=by
  intro j hj;by_cases hm:j < m.length
  · rw [List.getElem_append_left hm];obtain ⟨g1,g2⟩:=h j hm;refine ⟨g1,fun q hq=>?_⟩
    obtain ⟨k1,x,k2,k3⟩:=g2 q hq;exact ⟨k1,x,by rw [← List.append_assoc];exact some_more k2,k3⟩
  · rw [List.length_append] at hj;rw [List.getElem_append_right (by omega)];obtain ⟨g1,g2⟩:=k (j - m.length) (by omega);refine ⟨g1,fun q hq=>?_⟩
    obtain ⟨k1,x,k2,k3⟩:=g2 q hq;exact ⟨by rw [List.length_append] at k1;omega,x,by rw [← List.append_assoc];exact k2,k3⟩
def cnt (m:List Fm) (a:Nat):Nat:=(m.flatMap (·.l)).count a
theorem cnt_app (m n:List Fm) (a:Nat):cnt (m++n) a=cnt m a+cnt n a:=by unfold cnt;rw [List.flatMap_append,List.count_append]
theorem cnt_one (f:Fm) (a:Nat):cnt [f] a=f.l.count a:=by unfold cnt;simp
structure Made (st st':List Fm) (k:Nat) (m:List Fm) (top:Bool):Prop where
  eq:st'=st++m
  last:k+1=st.length+m.length
  pos:1≤m.length
  all:AllF st m
  one:∀ a,cnt m a=if st.length≤a∧a < k then 1 else 0
  kind:∃ x,st'[k]? = some x∧(x.kind=9→top=true)
structure Mades (st st':List Fm) (ks:List Nat) (m:List Fm):Prop where
  eq:st'=st++m
  all:AllF st m
  one:∀ a,cnt m a+ks.count a=if st.length≤a∧a < st.length+m.length then 1 else 0
  kinds:∀ q∈ks,∃ x,st'[q]? = some x∧x.kind≠9
theorem runs_made {F:Pt→List Fm→Except Int (List Fm × Nat)}:∀ (ps:List Pt) (st st':List Fm) (l l':List Nat),(∀ p∈ps,∀ s s' k,F p s = .ok (s',k)→∃ m,Made s s' k m false)→runs F ps st l = .ok (st',l')→∃ m ks,l'=l++ks∧ks.length=ps.length∧Mades st st' ks m:=by
  intro ps;induction ps with
  | nil =>
    intro st st' l l' _ e;simp only [runs,Except.ok.injEq,Prod.mk.injEq] at e
    obtain ⟨rfl,rfl⟩:=e;refine ⟨[],[],by simp,rfl,by simp,AllF.nil _,fun a=>?_,fun q hq=>by cases hq⟩
    show 0+0=_
    rw [if_neg (by simp)]
  | cons p ps ih =>
    intro st st' l l' hF e;unfold runs at e;cases hr:F p st with
    | error a=>rw [hr] at e;cases e
    | ok r =>
      obtain ⟨s1,k⟩:=r;rw [hr] at e;obtain ⟨m1,h1⟩:=hF p (List.mem_cons_self ..) _ _ _ hr;obtain ⟨m2,ks,e1,e2,h2⟩:=ih s1 st' (l++[k]) l' (fun q hq=>hF q (List.mem_cons_of_mem _ hq)) e;have hs1:=h1.eq;subst hs1;refine ⟨m1++m2,k::ks,by rw [e1];simp,by simp [e2],?_,h1.all.app h2.all,fun a=>?_,fun q hq=>?_⟩
      · rw [h2.eq,List.append_assoc]
      · have g1:=h1.one a;have g2:=h2.one a;have g3:=h1.last;have g4:=h1.pos;rw [cnt_app,List.count_cons,List.length_append];rw [List.length_append] at g2;have hb:(if (k == a)=true then 1 else 0)=if k=a then 1 else 0:=by simp
        rw [hb];clear hb;split at g1 <;> split at g2 <;> split <;> split <;> omega
      · rcases List.mem_cons.1 hq with rfl | hq
        · obtain ⟨x,g1,g2⟩:=h1.kind;exact ⟨x,by rw [h2.eq];exact some_more g1,fun h=>by have:=g2 h;cases this⟩
        · exact h2.kinds q hq
theorem run_made {ns:List Nd}:∀ (f:Nat) (p:Pt) (t:Bool),GoodPl t (ev ns p)→∀ (st st':List Fm) (k:Nat),run ns f p st = .ok (st',k)→∃ m,Made st st' k m t:=by
  intro f;induction f with
  | zero=>intro p t _ st st' k e;cases e
  | succ f ih =>
    intro p t hg st st' k e;unfold run at e;generalize ev ns p=pl at hg e;cases pl with
    | bad a=>cases e
    | ins q =>
      obtain ⟨m,h⟩:=ih q false (good_ev ns hg) st st' k e;obtain ⟨x,g1,g2⟩:=h.kind;exact ⟨m,h.eq,h.last,h.pos,h.all,h.one,x,g1,fun h9=>by have:=g2 h9;cases this⟩
    | mk fm ps =>
      obtain ⟨g1,g2,g3⟩:=hg;unfold onPl at e;simp only at e
      cases hr:runs (run ns f) ps st [] with
      | error a=>rw [hr] at e;cases e
      | ok r =>
        obtain ⟨s1,l⟩:=r;rw [hr] at e;simp only [Except.ok.injEq,Prod.mk.injEq] at e
        obtain ⟨rfl,rfl⟩:=e;obtain ⟨m,ks,e1,e2,h⟩:=runs_made ps st s1 [] l (fun q hq s s' k hr=>ih q false (good_ev ns (g2 q hq)) s s' k hr) hr;rw [List.nil_append] at e1;subst e1;have hs:=h.eq;refine ⟨m++[{ fm with l:=l }],by rw [hs,List.append_assoc],by rw [hs];simp;omega,by simp,?_,fun a=>?_,{ fm with l:=l },by simp,g3⟩
        · refine h.all.app fun j hj=>?_
          have:j=0:=by simpa using hj
          subst this;refine ⟨⟨by simp only [List.getElem_cons_zero];rw [e2];exact g1.kind,g1.none,g1.names,g1.name⟩,fun q hq=>?_⟩
          obtain ⟨x,k1,k2⟩:=h.kinds q hq;have hlt:=(List.getElem?_eq_some_iff.1 k1).1;rw [hs] at hlt k1;exact ⟨by omega,x,some_more k1,k2⟩
        · rw [cnt_app,cnt_one,h.one a,hs,List.length_append]
theorem runTops_made {ns:List Nd} (f:Nat):∀ (l:List Nat) (st st':List Fm) (t t':List Nat),runTops ns f l st t = .ok (st',t')→∃ m ks,st'=st++m∧t'=t++ks∧AllF st m∧∀ a,cnt m a+ks.count a=if st.length≤a∧a < st.length+m.length then 1 else 0:=by
  intro l;induction l with
  | nil =>
    intro st st' t t' e;simp only [runTops,Except.ok.injEq,Prod.mk.injEq] at e
    obtain ⟨rfl,rfl⟩:=e;refine ⟨[],[],by simp,by simp,AllF.nil _,fun a=>?_⟩
    show 0+0=_
    rw [if_neg (by simp)]
  | cons i l ih =>
    intro st st' t t' e;unfold runTops at e;cases hr:run ns f (.top i) st with
    | error a=>rw [hr] at e;cases e
    | ok r =>
      obtain ⟨s1,k⟩:=r;rw [hr] at e;obtain ⟨m1,h1⟩:=run_made f (.top i) true (good_plan ns i true) st s1 k hr;obtain ⟨m2,ks,e1,e2,h2,h3⟩:=ih s1 st' _ _ e;have hs1:=h1.eq;subst hs1;refine ⟨m1++m2,k::ks,by rw [e1,List.append_assoc],by rw [e2];simp,h1.all.app h2,fun a=>?_⟩
      have g1:=h1.one a;have g2:=h3 a;have g3:=h1.last;have g4:=h1.pos;rw [cnt_app,List.count_cons,List.length_append];rw [List.length_append] at g2;have hb:(if (k == a)=true then 1 else 0)=if k=a then 1 else 0:=by simp
      rw [hb];clear hb;split at g1 <;> split at g2 <;> split <;> split <;> omega
theorem run_len {ns:List Nd} (hok:Ok ns):∀ (f:Nat) (p:Pt) (st st':List Fm) (k:Nat),run ns f p st = .ok (st',k)→st'.length≤st.length+wt ns p:=by
  intro f;induction f with
  | zero=>intro p st st' k e;cases e
  | succ f ih =>
    intro p st st' k e;have hw:=ev_w hok p;unfold run at e;generalize ev ns p=pl at hw e;cases pl with
    | bad a=>cases e
    | ins q=>have:=ih q st st' k e;simp only [wpl] at hw;omega
    | mk fm ps =>
      simp only [wpl] at hw
      have hps:∀ (ps:List Pt) (st st':List Fm) (l l':List Nat),runs (run ns f) ps st l = .ok (st',l')→st'.length≤st.length+wps ns ps:=by
        intro ps;induction ps with
        | nil=>intro st st' l l' e;simp only [runs,Except.ok.injEq,Prod.mk.injEq] at e;rw [e.1];omega
        | cons q ps ihp =>
          intro st st' l l' e;unfold runs at e;cases hr:run ns f q st with
          | error a=>rw [hr] at e;cases e
          | ok r =>
            obtain ⟨s1,k1⟩:=r;rw [hr] at e;have g1:=ih q st s1 k1 hr;have g2:=ihp s1 st' _ _ e;rw [wps_cons];omega
      unfold onPl at e;simp only at e
      cases hr:runs (run ns f) ps st [] with
      | error a=>rw [hr] at e;cases e
      | ok r =>
        obtain ⟨s1,l⟩:=r;rw [hr] at e;simp only [Except.ok.injEq,Prod.mk.injEq] at e
        obtain ⟨rfl,rfl⟩:=e;have:=hps ps st s1 [] l hr;rw [List.length_append];simp;omega
theorem runTops_len {ns:List Nd} (hok:Ok ns) (f:Nat):∀ (l:List Nat) (st st':List Fm) (t t':List Nat),runTops ns f l st t = .ok (st',t')→st'.length≤st.length+(l.map fun i=>wt ns (.top i)).sum∧t'.length=t.length+l.length:=by
  intro l;induction l with
  | nil=>intro st st' t t' e;simp only [runTops,Except.ok.injEq,Prod.mk.injEq] at e;rw [e.1,e.2];simp
  | cons i l ih =>
    intro st st' t t' e;unfold runTops at e;cases hr:run ns f (.top i) st with
    | error a=>rw [hr] at e;cases e
    | ok r =>
      obtain ⟨s1,k⟩:=r;rw [hr] at e;have g1:=run_len hok f _ st s1 k hr;have g2:=ih s1 st' _ _ e;rw [List.map_cons,List.sum_cons];rw [List.length_append] at g2;simp at g2 ⊢
      omega
theorem rows_self {ns:List Nd} {Q:Int→Prop} (h:∀ i,i < ns.length→Q (ndAt ns i).at_):Rows 0 (fun x _=>Q x) ns ns:=fun i hi=>⟨rfl,h i hi,rfl,rfl,by simp⟩
end EX
end Go.Proofs.YtodjaabcjojlkaaDoor
