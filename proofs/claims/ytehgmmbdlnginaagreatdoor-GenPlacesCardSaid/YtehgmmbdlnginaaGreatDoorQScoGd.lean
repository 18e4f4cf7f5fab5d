/-
  Several texts in one: ExpTp2,ScoMach,ScoNam,ExpMayP,ScoGd.
-/
import Derived.Test.YtehgmmbdlnginaaGreatDoorQExpDta
import Derived.Test.YtehgmmbdlnginaaGreatDoorQScoPlain
import Derived.Test.YtehgmmbdlnginaaGreatDoorQExpPure
import Derived.Test.YtehgmmbdlnginaaGreatDoorQReadMays
namespace Go.Proofs.YtehgmmbdlnginaaGreatDoor
namespace EX
open LX RX SX
def Quo (N:Nat) (f:Fm):Prop:=f.kind=3→0≤f.n∧f.n < (N:Int)
def QuoPl (N:Nat):Pl→Prop
  | .mk f _=>Quo N f
  | _=>True
theorem quo_ne {N:Nat} {k a n:Int} {s:ByteArray} {p:List ByteArray} {l:List Nat} (h:k≠3):Quo N ⟨k,a,n,s,p,l⟩:=fun e=>absurd e h
theorem quo_choose (N:Nat) (a:Int) (x y z:Pt):QuoPl N (choosePl a x y z):=quo_ne (by decide)
theorem quo_truth (N:Nat) (a n:Int):QuoPl N (truth a n):=quo_ne (by decide)
theorem quo_function (N:Nat) (a:Int) (ns:List ByteArray) (b:Pt):QuoPl N (function a ns b):=quo_ne (by decide)
theorem quo_definition (N:Nat) (a:Int) (s:ByteArray) (v:Pt):QuoPl N (definition a s v):=quo_ne (by decide)
theorem quo_call (N:Nat) (a:Int) (ns:List ByteArray) (b:Pt) (vs:List Pt):QuoPl N (call a ns b vs):=quo_ne (by decide)
theorem quo_nested (N:Nat) (a:Int) (names:List ByteArray) (vs:List Nat) (b:Pt):QuoPl N (nestedP a names vs b):=by
  match names,vs with
  | [],_=>trivial
  | _::_,[]=>trivial
  | n::ns,v::vs=>exact quo_call _ _ _ _ _
theorem quo_and (N:Nat) (a:Int) (l:List Nat):QuoPl N (andP a l):=by
  match l with
  | []=>exact quo_truth _ _ _
  | [x]=>trivial
  | x::y::l=>exact quo_choose _ _ _ _ _
theorem quo_or (N:Nat) (a:Int) (l:List Nat):QuoPl N (orP a l):=by
  match l with
  | []=>exact quo_truth _ _ _
  | [x]=>trivial
  | x::y::l=>exact quo_call _ _ _ _ _
theorem quo_cond (N:Nat) (ns:List Nd) (a:Int) (l:List Nat):QuoPl N (condP ns a l):=by
  match l with
  | []=>exact quo_truth _ _ _
  | c::cs =>
    unfold condP;simp only []
    exact ite_of (QuoPl N) (fun _=>trivial) fun _=>ite_of (QuoPl N) (fun _=>quo_choose _ _ _ _ _) fun _=>ite_of (QuoPl N) (fun _=>trivial) fun _=>trivial
theorem quo_list {ns:List Nd} (d:Nd) (hin:∀ i∈d.l,i < ns.length) (top:Bool):QuoPl ns.length (listP ns d top):=by
  unfold listP;refine ite_of (QuoPl ns.length) (fun _=>trivial) fun _=>?_
  refine ite_of (QuoPl ns.length) (fun _=>?_) fun _=>quo_ne (by decide)
  have hr:∀ i∈d.l.drop 1,i < ns.length:=fun i hi=>hin i (mem_drop1 hi)
  generalize d.l.drop 1=r at hr;refine shape_of (QuoPl ns.length) trivial (fun h=>?_) (fun _ _=>quo_choose _ _ _ _ _) ?_ ?_ (fun _=>trivial) ?_ ?_ ?_ (fun _=>quo_cond _ _ _ _) (quo_and _ _ _) (quo_or _ _ _) (fun _=>quo_choose _ _ _ _ _) (fun _=>quo_choose _ _ _ _ _)
  · intro _;have h1:r.getD 0 0 < ns.length:=hr _ (mem_getD (by omega));show 0≤((r.getD 0 0:Nat):Int)∧((r.getD 0 0:Nat):Int) < _
    omega
  · intro _;unfold lambdaP;simp only []
    split
    · trivial
    · exact ite_of (QuoPl ns.length) (fun _=>quo_function _ _ _ _) fun _=>trivial
  · intro _;unfold setP;split
    · trivial
    · exact quo_ne (by decide)
  · intro _;unfold defineP;refine ite_of (QuoPl ns.length) (fun _=>trivial) fun _=>ite_of (QuoPl ns.length) (fun _=>?_) fun _=>?_
    · unfold defineF;split
      · exact quo_definition _ _ _ _
      · trivial
    · split
      · trivial
      · exact ite_of (QuoPl ns.length) (fun _=>trivial) fun _=>quo_definition _ _ _ _
  · intro _;unfold letP;split
    · trivial
    · split
      · trivial
      · exact quo_call _ _ _ _ _
  · intro _;unfold starP;split
    · trivial
    · split
      · trivial
      · exact quo_nested _ _ _ _ _
theorem quo_plan {ns:List Nd} (hok:Ok ns) (i:Nat) (top:Bool):QuoPl ns.length (plan ns i top):=by
  unfold plan;simp only []
  refine ite_of (QuoPl ns.length) (fun _=>quo_ne (by decide)) fun _=>?_
  refine ite_of (QuoPl ns.length) (fun _=>quo_ne (by decide)) fun _=>?_
  refine ite_of (QuoPl ns.length) (fun _=>?_) fun _=>quo_list _ (fun p hp=>(kid hok hp).2) top
  exact ite_of (QuoPl ns.length) (fun _=>trivial) fun _=>quo_ne (by decide)
theorem quo_ev {ns:List Nd} (hok:Ok ns) (p:Pt):QuoPl ns.length (ev ns p):=by
  cases p with
  | top i=>exact quo_plan hok i true
  | dat i=>exact quo_plan hok i false
  | seq a l=>exact quo_ne (by decide)
  | tr a n=>exact quo_truth _ _ _
  | kept a=>exact quo_ne (by decide)
  | fn a nm b=>exact quo_function _ _ _ _
  | nested a nm vs b=>exact quo_nested _ _ _ _ _
  | cond a l=>exact quo_cond _ _ _ _
  | and a l=>exact quo_and _ _ _
  | or a l=>exact quo_or _ _ _
  | orb a l=>exact quo_choose _ _ _ _ _
theorem runs_quo {N:Nat} {F:Pt→List Fm→Except Int (List Fm × Nat)} (hF:∀ p st st' k,F p st = .ok (st',k)→(∀ x∈st,Quo N x)→∀ x∈st',Quo N x) :
    ∀ (ps:List Pt) (st st':List Fm) (l l':List Nat),runs F ps st l = .ok (st',l')→(∀ x∈st,Quo N x)→∀ x∈st',Quo N x:=by
  intro ps;induction ps with
  | nil =>
    intro st st' l l' e h;simp only [runs,Except.ok.injEq,Prod.mk.injEq] at e
    rw [← e.1];exact h
  | cons p ps ih =>
    intro st st' l l' e h;unfold runs at e;cases hr:F p st with
    | error a=>rw [hr] at e;cases e
    | ok r =>
      obtain ⟨s1,k⟩:=r;rw [hr] at e;exact ih s1 st' _ _ e (hF p st s1 k hr h)
theorem run_quo {ns:List Nd} (hok:Ok ns):∀ (f:Nat) (p:Pt) (st st':List Fm) (k:Nat),run ns f p st = .ok (st',k)→(∀ x∈st,Quo ns.length x)→∀ x∈st',Quo ns.length x:=by
  intro f;induction f with
  | zero=>intro p st st' k e;cases e
  | succ f ih =>
    intro p st st' k e h;have hq:=quo_ev hok p;unfold run at e;generalize ev ns p=pl at hq e;cases pl with
    | bad a=>cases e
    | ins q=>exact ih q st st' k e h
    | mk fm ps =>
      unfold onPl at e;simp only at e
      cases hr:runs (run ns f) ps st [] with
      | error a=>rw [hr] at e;cases e
      | ok r =>
        obtain ⟨s1,l⟩:=r;rw [hr] at e;simp only [Except.ok.injEq,Prod.mk.injEq] at e
        obtain ⟨rfl,rfl⟩:=e;intro x hx
        rcases List.mem_append.1 hx with hx | hx
        · exact runs_quo ih ps st s1 [] l hr h x hx
        · rw [List.mem_singleton.1 hx];exact hq
theorem tops_quo {ns:List Nd} (hok:Ok ns) (f:Nat):∀ (l:List Nat) (st st':List Fm) (t t':List Nat),runTops ns f l st t = .ok (st',t')→(∀ x∈st,Quo ns.length x)→∀ x∈st',Quo ns.length x:=by
  intro l;induction l with
  | nil=>intro st st' t t' e h;simp only [runTops,Except.ok.injEq,Prod.mk.injEq] at e;rw [← e.1];exact h
  | cons i l ih =>
    intro st st' t t' e h;unfold runTops at e;cases hr:run ns f (.top i) st with
    | error a=>rw [hr] at e;cases e
    | ok r =>
      obtain ⟨s1,k⟩:=r;rw [hr] at e;exact ih s1 st' _ _ e (run_quo hok f _ st s1 k hr h)
theorem tops_at {ns:List Nd} (hok:Ok ns) {Q:Int→Prop} (h:∀ i,i < ns.length→Q (ndAt ns i).at_) {f:Nat} {l:List Nat} (hl:∀ i∈l,i < ns.length∧wt ns (.top i)≤f) {st:List Fm} {t:List Nat} (e:runTops ns f l [] [] = .ok (st,t)):∀ x∈st,Q x.at_:=by
  have:=tops_E (A:=fun x _=>Q x) (rows_self h) hok (E:=0) (pre:=[]) f l [] [] [] [] hl ⟨rfl,[],rfl,rfl,fun k hk=>absurd hk (by simp)⟩;have e2:l.map (· + 0)=l:=by simp
  rw [e2,List.map_nil,List.nil_append,e] at this;obtain ⟨⟨_,m,e3,e4,e5⟩,_⟩:=this;intro x hx;obtain ⟨k,hk,rfl⟩:=List.getElem_of_mem hx;exact (e5 k hk (by have:m.length=st.length:=e4;omega)).fm.at_
structure FormsOf (s:ByteArray) (r:Rd) (fs:List Fm) (ts:List Nat):Prop where
  at_:∀ x∈fs,0≤x.at_∧x.at_ < s.size
  quo:∀ x∈fs,Quo r.row.length x
  len:fs.length≤32*s.size
  tlen:ts.length=r.tops.length
  made:AllF [] fs
  one:∀ a,cnt fs a+ts.count a=if a < fs.length then 1 else 0
theorem forms_of {s:ByteArray} {r:Rd} {fs:List Fm} {ts:List Nat} (hR:read s = .ok r) (h:expand r.row r.tops = .ok (fs,ts)):FormsOf s r fs ts:=by
  have hok:=read_ok_data hR;have hI:=(read_plain hR).1;obtain ⟨m,ks,e1,e2,h3,h4⟩:=runTops_made _ _ _ _ _ _ h;rw [List.nil_append] at e1 e2;subst e1 e2;have hl:=runTops_len hok _ _ _ _ _ _ h;have hw:=sum_wt r.row r.tops;rw [read_T hR] at hw;have h2:=read_len hR;refine ⟨tops_at hok (Q:=fun x=>0≤x∧x < s.size) (fun i hi=>?_) (fun i hi=>read_wt hR i hi) h,tops_quo hok _ _ _ _ _ _ h (fun x hx=>by cases hx),?_,?_,h3,fun a=>?_⟩
  · have e:ndAt r.row i=r.row[i]:=by
      unfold ndAt;rw [List.getD_eq_getElem?_getD,List.getElem?_eq_getElem hi];rfl
    rw [e];obtain ⟨g1,g2⟩:=hI.good _ (List.getElem_mem hi);exact ⟨g1.1,g2⟩
  · have:=hl.1;simp only [List.length_nil] at this
    omega
  · have:=hl.2;simp only [List.length_nil] at this
    omega
  · have:=h4 a;simpa using this
end EX
end Go.Proofs.YtehgmmbdlnginaaGreatDoor
namespace Go.Proofs.YtehgmmbdlnginaaGreatDoor
namespace SC
open LX RX SX EX
abbrev Fin:=Except Er (List ByteArray × List Rf × List Nat)
end SC
end Go.Proofs.YtehgmmbdlnginaaGreatDoor
namespace Go.Proofs.YtehgmmbdlnginaaGreatDoor
namespace EX
open LX RX SX
section
variable {ns:List Nd} {P:ByteArray→Prop} {Q:Int→Prop}
def NmF (P:ByteArray→Prop) (Q:Int→Prop) (f:Fm):Prop:=(f.kind=1→Q f.n)∧(f.kind=4∨f.kind=7→P f.s∨f.s=blank)∧(f.kind=9→P f.s)∧(∀ s∈f.p,P s∨s=blank)∧(f.s=emp∨P f.s∨f.s=blank)
def NmPt (P:ByteArray→Prop):Pt→Prop
  | .fn _ ns b=>(∀ s∈ns,P s∨s=blank)∧NmPt P b
  | .nested _ ns _ b=>(∀ s∈ns,P s)∧NmPt P b
  | _=>True
def NmPl (P:ByteArray→Prop) (Q:Int→Prop):Pl→Prop
  | .bad _=>True
  | .mk f ps=>NmF P Q f∧∀ p∈ps,NmPt P p
  | .ins q=>NmPt P q
theorem nm_frm {k a n:Int} (h:k=1→Q n) (h4:k≠4) (h7:k≠7) (h9:k≠9):NmF P Q (frm k a n):=⟨h,fun e=>e.elim (fun e=>absurd e h4) (fun e=>absurd e h7),fun e=>absurd e h9,fun s hs=>(by cases hs),.inl rfl⟩
theorem nm_body (a:Int) (l:List Nat):NmPt P (body a l):=by
  unfold body;split <;> trivial
theorem nm_dats (l:List Nat):∀ p∈l.map Pt.dat,NmPt P p:=by
  intro p hp;obtain ⟨i,_,rfl⟩:=List.mem_map.1 hp;trivial
theorem nm_choose (a:Int) {x y z:Pt} (hx:NmPt P x) (hy:NmPt P y) (hz:NmPt P z):NmPl P Q (choosePl a x y z):=by
  refine ⟨nm_frm (fun h=>absurd h (by decide)) (by decide) (by decide) (by decide),fun p hp=>?_⟩
  simp only [List.mem_cons,List.not_mem_nil,or_false] at hp
  rcases hp with rfl | rfl | rfl
  · exact hx
  · exact hy
  · exact hz
theorem nm_truth (a n:Int):NmPl P Q (truth a n):=⟨nm_frm (fun h=>absurd h (by decide)) (by decide) (by decide) (by decide),fun p hp=>by cases hp⟩
theorem nm_function (a:Int) {l:List ByteArray} {b:Pt} (hn:∀ s∈l,P s∨s=blank) (hb:NmPt P b):NmPl P Q (function a l b) :=
  ⟨⟨fun h=>absurd (show (6:Int)=1 from h) (by decide),fun h=>h.elim (fun h=>absurd (show (6:Int)=4 from h) (by decide)) (fun h=>absurd (show (6:Int)=7 from h) (by decide)),fun h=>absurd (show (6:Int)=9 from h) (by decide),hn,.inl rfl⟩,fun p hp=>by rw [List.mem_singleton.1 hp];exact hb⟩
theorem nm_definition (a:Int) {s:ByteArray} {v:Pt} (hs:P s) (hv:NmPt P v):NmPl P Q (definition a s v) :=
  ⟨⟨fun h=>absurd (show (9:Int)=1 from h) (by decide),fun h=>h.elim (fun h=>absurd (show (9:Int)=4 from h) (by decide)) (fun h=>absurd (show (9:Int)=7 from h) (by decide)),fun _=>hs,fun x hx=>(by cases hx),.inr (.inl hs)⟩,fun p hp=>by rw [List.mem_singleton.1 hp];exact hv⟩
theorem nm_call (a:Int) {l:List ByteArray} {b:Pt} {vs:List Pt} (hn:∀ s∈l,P s∨s=blank) (hb:NmPt P b) (hv:∀ p∈vs,NmPt P p):NmPl P Q (call a l b vs):=by
  refine ⟨nm_frm (fun h=>absurd h (by decide)) (by decide) (by decide) (by decide),fun p hp=>?_⟩
  rcases List.mem_cons.1 hp with rfl | hp
  · exact ⟨hn,hb⟩
  · exact hv p hp
theorem nm_nested (a:Int) (names:List ByteArray) (vs:List Nat) (b:Pt) (hn:∀ s∈names,P s) (hb:NmPt P b):NmPl P Q (nestedP a names vs b):=by
  match names,vs,hn with
  | [],_,_=>exact hb
  | _::_,[],_=>exact hb
  | n::l,v::vs,hn=>exact nm_call a (fun s hs=>by rw [List.mem_singleton.1 hs];exact .inl (hn n (List.mem_cons_self ..))) ⟨fun s hs=>hn s (List.mem_cons_of_mem _ hs),hb⟩ (fun p hp=>by rw [List.mem_singleton.1 hp];trivial)
theorem nm_and (a:Int) (l:List Nat):NmPl P Q (andP a l):=by
  match l with
  | []=>exact nm_truth a 1
  | [x]=>trivial
  | x::y::l=>exact nm_choose a trivial trivial trivial
theorem nm_or (a:Int) (l:List Nat):NmPl P Q (orP a l):=by
  match l with
  | []=>exact nm_truth a 0
  | [x]=>trivial
  | x::y::l=>exact nm_call a (fun s hs=>.inr (List.mem_singleton.1 hs)) trivial (fun p hp=>by rw [List.mem_singleton.1 hp];trivial)
theorem nm_cond (ns:List Nd) (a:Int) (l:List Nat):NmPl P Q (condP ns a l):=by
  match l with
  | []=>exact nm_truth a 0
  | c::cs =>
    unfold condP;simp only []
    refine ite_of (NmPl P Q) (fun _=>trivial) fun h2=>?_
    exact ite_of (NmPl P Q) (fun _=>nm_choose a trivial (nm_body _ _) trivial) fun _=>ite_of (NmPl P Q) (fun _=>trivial) fun _=>nm_body _ _
variable (hD:∀ i,(ndAt ns i).s=emp∨P (ndAt ns i).s) (h3:∀ i,(ndAt ns i).kind=3→P (ndAt ns i).s) (h1:∀ i,(ndAt ns i).kind=1→Q (ndAt ns i).n)
include hD
theorem nameOf_nm {i:Nat} {s:ByteArray} (h:nameOf ns i=some s):P s:=by
  unfold nameOf at h;split at h
  · cases h
  · rename_i hn;injection h with h;subst h;exact (hD i).elim (fun e=>absurd (.inl e) hn) id
theorem namesG_nm:∀ (l:List Nat) (acc out:List ByteArray),namesG ns l acc=some out→(∀ s∈acc,P s)→∀ s∈out,P s:=by
  intro l;induction l with
  | nil=>intro acc out e h;simp only [namesG,Option.some.injEq] at e;subst e;exact h
  | cons i l ih =>
    intro acc out e h;unfold namesG at e;split at e
    · cases e
    · rename_i s hs;split at e
      · cases e
      · refine ih _ _ e fun x hx=>?_
        rcases List.mem_append.1 hx with hx | hx
        · exact h x hx
        · rw [List.mem_singleton.1 hx];exact nameOf_nm hD hs
theorem names_nm {l:List Nat} {out:List ByteArray} (h:namesOf ns l=some out):∀ s∈out,P s∨s=blank:=fun s hs=>.inl (namesG_nm hD l [] out h (fun s h=>by cases h) s hs)
theorem starG_nm:∀ (l:List Nat) (acc out:List ByteArray),starG ns l acc=some out→(∀ s∈acc,P s)→∀ s∈out,P s:=by
  intro l;induction l with
  | nil=>intro acc out e h;simp only [starG,Option.some.injEq] at e;subst e;exact h
  | cons i l ih =>
    intro acc out e h;unfold starG at e;split at e
    · cases e
    · rename_i s hs;refine ih _ _ e fun x hx=>?_
      rcases List.mem_append.1 hx with hx | hx
      · exact h x hx
      · rw [List.mem_singleton.1 hx];exact nameOf_nm hD hs
theorem nm_list (d:Nd) (top:Bool):NmPl P Q (listP ns d top):=by
  unfold listP;refine ite_of (NmPl P Q) (fun _=>trivial) fun hne=>?_
  refine ite_of (NmPl P Q) (fun _=>?_) fun _=>⟨nm_frm (fun h=>absurd h (by decide)) (by decide) (by decide) (by decide),nm_dats _⟩
  generalize d.l.drop 1=r;refine shape_of (NmPl P Q) trivial (fun _=>⟨nm_frm (fun h=>absurd h (by decide)) (by decide) (by decide) (by decide),fun p hp=>(by cases hp)⟩) ?_ ?_ ?_ (fun h=>nm_body _ _) ?_ ?_ ?_ (fun _=>nm_cond ns _ _) (nm_and _ _) (nm_or _ _) (fun h=>nm_choose _ trivial (nm_body _ _) trivial) (fun h=>nm_choose _ trivial trivial (nm_body _ _))
  · intro _ _;exact nm_choose _ trivial trivial (ite_of (NmPt P) (fun _=>trivial) fun _=>trivial)
  · intro h2;unfold lambdaP;simp only []
    split
    · trivial
    · rename_i names e;exact ite_of (NmPl P Q) (fun _=>nm_function _ (names_nm hD e) (nm_body _ _)) fun _=>trivial
  · intro h2;unfold setP;split
    · trivial
    · rename_i s e;have hs:=nameOf_nm hD e;exact ⟨⟨fun h=>absurd (show (7:Int)=1 from h) (by decide),fun _=>.inl hs,fun _=>hs,fun x hx=>(by cases hx),.inr (.inl hs)⟩,fun p hp=>(by rw [List.mem_singleton.1 hp];trivial)⟩
  · intro h2;unfold defineP;refine ite_of (NmPl P Q) (fun _=>trivial) fun _=>?_
    refine ite_of (NmPl P Q) (fun _=>?_) fun _=>?_
    · unfold defineF;split
      · rename_i s names e1 e2;exact nm_definition _ (nameOf_nm hD e1) ⟨names_nm hD e2,nm_body _ _⟩
      · trivial
    · split
      · trivial
      · rename_i s e;exact ite_of (NmPl P Q) (fun _=>trivial) fun _=>nm_definition _ (nameOf_nm hD e) trivial
  · intro h2;unfold letP;split
    · trivial
    · split
      · trivial
      · rename_i names e;exact nm_call _ (names_nm hD e) (nm_body _ _) (nm_dats _)
  · intro h2;unfold starP;split
    · trivial
    · split
      · trivial
      · rename_i names e;exact nm_nested _ _ _ _ (starG_nm hD _ _ _ e (fun s h=>by cases h)) (nm_body _ _)
include h3 h1
theorem nm_plan (i:Nat) (top:Bool):NmPl P Q (plan ns i top):=by
  unfold plan;simp only []
  refine ite_of (NmPl P Q) (fun e=>⟨nm_frm (fun _=>h1 i e) (by decide) (by decide) (by decide),fun p hp=>(by cases hp)⟩) fun _=>?_
  refine ite_of (NmPl P Q) (fun _=>⟨nm_frm (fun h=>absurd h (by decide)) (by decide) (by decide) (by decide),fun p hp=>(by cases hp)⟩) fun _=>?_
  refine ite_of (NmPl P Q) (fun e=>?_) fun _=>nm_list hD _ top
  by_cases hr:reserved (ndAt ns i).s=true
  · rw [if_pos hr];trivial
  · rw [if_neg hr];exact ⟨⟨fun h=>absurd (show (4:Int)=1 from h) (by decide),fun _=>.inl (h3 i e),fun h=>absurd (show (4:Int)=9 from h) (by decide),fun x hx=>(by cases hx),.inr (.inl (h3 i e))⟩,fun p hp=>(by cases hp)⟩
theorem nm_ev (p:Pt) (h:NmPt P p):NmPl P Q (ev ns p):=by
  cases p with
  | top i=>exact nm_plan hD h3 h1 i true
  | dat i=>exact nm_plan hD h3 h1 i false
  | seq a l=>exact ⟨nm_frm (fun h=>absurd h (by decide)) (by decide) (by decide) (by decide),nm_dats _⟩
  | tr a n=>exact nm_truth _ _
  | kept a=>exact ⟨⟨fun h=>absurd (show (4:Int)=1 from h) (by decide),fun _=>.inr rfl,fun h=>absurd (show (4:Int)=9 from h) (by decide),fun x hx=>(by cases hx),.inr (.inr rfl)⟩,fun p hp=>(by cases hp)⟩
  | fn a nm b=>exact nm_function _ h.1 h.2
  | nested a nm vs b=>exact nm_nested _ _ _ _ h.1 h.2
  | cond a l=>exact nm_cond _ _ _
  | and a l=>exact nm_and _ _
  | or a l=>exact nm_or _ _
  | orb a l=>exact nm_choose _ trivial trivial trivial
omit hD h3 h1 in
theorem runs_nm {F:Pt→List Fm→Except Int (List Fm × Nat)} (hF:∀ p,NmPt P p→∀ st st' k,F p st = .ok (st',k)→(∀ x∈st,NmF P Q x)→∀ x∈st',NmF P Q x) :
    ∀ (ps:List Pt),(∀ p∈ps,NmPt P p)→∀ (st st':List Fm) (l l':List Nat),runs F ps st l = .ok (st',l')→(∀ x∈st,NmF P Q x)→∀ x∈st',NmF P Q x:=by
  intro ps;induction ps with
  | nil =>
    intro _ st st' l l' e h;simp only [runs,Except.ok.injEq,Prod.mk.injEq] at e
    rw [← e.1];exact h
  | cons p ps ih =>
    intro hp st st' l l' e h;unfold runs at e;cases hr:F p st with
    | error a=>rw [hr] at e;cases e
    | ok r =>
      obtain ⟨s1,k⟩:=r;rw [hr] at e;exact ih (fun q hq=>hp q (List.mem_cons_of_mem _ hq)) s1 st' _ _ e (hF p (hp p (List.mem_cons_self ..)) st s1 k hr h)
theorem run_nm:∀ (f:Nat) (p:Pt),NmPt P p→∀ (st st':List Fm) (k:Nat),run ns f p st = .ok (st',k)→(∀ x∈st,NmF P Q x)→∀ x∈st',NmF P Q x:=by
  intro f;induction f with
  | zero=>intro p _ st st' k e;cases e
  | succ f ih =>
    intro p hp st st' k e h;have hq:=nm_ev hD h3 h1 p hp;unfold run at e;generalize ev ns p=pl at hq e;cases pl with
    | bad a=>cases e
    | ins q=>exact ih q hq st st' k e h
    | mk fm ps =>
      unfold onPl at e;simp only at e
      cases hr:runs (run ns f) ps st [] with
      | error a=>rw [hr] at e;cases e
      | ok r =>
        obtain ⟨s1,l⟩:=r;rw [hr] at e;simp only [Except.ok.injEq,Prod.mk.injEq] at e
        obtain ⟨rfl,rfl⟩:=e;intro x hx
        rcases List.mem_append.1 hx with hx | hx
        · exact runs_nm ih ps hq.2 st s1 [] l hr h x hx
        · rw [List.mem_singleton.1 hx];exact hq.1
theorem tops_nm (f:Nat):∀ (l:List Nat) (st st':List Fm) (t t':List Nat),runTops ns f l st t = .ok (st',t')→(∀ x∈st,NmF P Q x)→∀ x∈st',NmF P Q x:=by
  intro l;induction l with
  | nil=>intro st st' t t' e h;simp only [runTops,Except.ok.injEq,Prod.mk.injEq] at e;rw [← e.1];exact h
  | cons i l ih =>
    intro st st' t t' e h;unfold runTops at e;cases hr:run ns f (.top i) st with
    | error a=>rw [hr] at e;cases e
    | ok r =>
      obtain ⟨s1,k⟩:=r;rw [hr] at e;exact ih s1 st' _ _ e (run_nm hD h3 h1 f (.top i) trivial st s1 k hr h)
end
end EX
end Go.Proofs.YtehgmmbdlnginaaGreatDoor
namespace Go.Proofs.YtehgmmbdlnginaaGreatDoor
set_option linter.unusedVariables false
namespace EX
open LX RX SX
def fsum (L:Nat→Nat) (tk:List Bool) (k:Nat):Nat:=((List.range k).map fun j=>if tk.getD j false=true then 0 else L j).sum
theorem fsum_succ (L:Nat→Nat) (tk:List Bool) (k:Nat):fsum L tk (k+1)=fsum L tk k+(if tk.getD k false=true then 0 else L k):=by
  unfold fsum;rw [List.range_succ,List.map_append,List.sum_append];simp
theorem getD_set_ne_ (tk:List Bool) (p j:Nat) (h:p≠j):(tk.set p true).getD j false=tk.getD j false:=by
  rw [List.getD_eq_getElem?_getD,List.getElem?_set_ne h,← List.getD_eq_getElem?_getD]
theorem fsum_set_ge (L:Nat→Nat) (tk:List Bool) (p:Nat):∀ k,k≤p→fsum L (tk.set p true) k=fsum L tk k:=by
  intro k;induction k with
  | zero=>intro _;rfl
  | succ k ih =>
    intro h;rw [fsum_succ,fsum_succ,ih (by omega),getD_set_ne_ tk p k (by omega)]
theorem fsum_set (L:Nat→Nat) (tk:List Bool) (p:Nat) (hp:p < tk.length) (hf:tk.getD p false=false):∀ k,p < k→fsum L tk k=fsum L (tk.set p true) k+L p:=by
  intro k;induction k with
  | zero=>intro h;omega
  | succ k ih =>
    intro h;rw [fsum_succ,fsum_succ];by_cases e:p=k
    · subst e;rw [fsum_set_ge L tk p p (Nat.le_refl _),hf];have:(tk.set p true).getD p false=true:=by
        rw [List.getD_eq_getElem?_getD,List.getElem?_set_self hp];rfl
      rw [this];simp
    · rw [ih (by omega),getD_set_ne_ tk p k e];omega
theorem takeL_sum (L:Nat→Nat) (i:Nat):∀ (l:List Int) (tk tk':List Bool),takeL i l tk=some tk'→i≤tk.length→(∀ p∈l,0≤p∧p < (i:Int))∧∀ k,i≤k→fsum L tk k=fsum L tk' k+(l.map fun p=>L p.toNat).sum:=by
  intro l;induction l with
  | nil =>
    intro tk tk' h _;simp [takeL] at h
    subst h;exact ⟨by simp,fun k _=>by simp⟩
  | cons p l ih =>
    intro tk tk' h hlen;unfold takeL at h;split at h
    · cases h
    · rename_i h1;split at h
      · cases h
      · rename_i h2;have hp:p.toNat < tk.length:=by omega
        obtain ⟨g1,g2⟩:=ih _ _ h (by rw [List.length_set];exact hlen);refine ⟨fun q hq=>?_,fun k hk=>?_⟩
        · rcases List.mem_cons.1 hq with rfl | hq
          · omega
          · exact g1 q hq
        · have hf:tk.getD p.toNat false=false:=by
            cases hc:tk.getD p.toNat false with
            | false=>rfl
            | true=>exact absurd hc h2
          rw [fsum_set L tk p.toNat hp hf k (by omega),g2 k hk,List.map_cons,List.sum_cons];omega
theorem mayG_all (L:Nat→Nat) (C:Nat):∀ (xs:List Ni) (i:Nat) (tk:List Bool),mayG xs i tk=true→i+xs.length≤tk.length→fsum L tk i≤i*C →
    (∀ (k:Nat) (h:k < xs.length),L (i+k)≤C+(xs[k].l.map fun p=>L p.toNat).sum)→∀ (k:Nat) (h:k < xs.length),okF xs[k].kind xs[k].at_ xs[k].n xs[k].s xs[k].l.length=true∧(∀ p∈xs[k].l,0≤p∧p < ((i+k:Nat):Int))∧L (i+k)≤(i+k+1)*C:=by
  intro xs;induction xs with
  | nil=>intro i tk _ _ _ _ k h;simp at h
  | cons x xs ih =>
    intro i tk h hlen hs hL k hk;unfold mayG at h;split at h
    · cases h
    · rename_i hok;split at h
      · cases h
      · rename_i tk' hT;simp only [List.length_cons] at hlen
        obtain ⟨g1,g2⟩:=takeL_sum L i x.l tk tk' hT (by omega);have hl':=takeL_len _ _ _ _ hT;have h0:=hL 0 (by simp);simp only [Nat.add_zero,List.getElem_cons_zero] at h0
        have hsum:=g2 i (Nat.le_refl _);cases k with
        | zero =>
          refine ⟨by simpa using hok,by simpa using g1,?_⟩
          rw [Nat.add_zero,Nat.succ_mul];omega
        | succ k =>
          have:=ih (i+1) tk' h (by rw [hl'];omega) (by
            rw [fsum_succ,Nat.succ_mul];split <;> omega) (fun j hj=>by
              have:=hL (j+1) (by simpa using hj);rw [show i+1+j=i+(j+1) by omega];simpa using this) k (by simpa using hk)
          rw [show i+1+k=i+(k+1) by omega] at this;simpa using this
end EX
end Go.Proofs.YtehgmmbdlnginaaGreatDoor
namespace Go.Proofs.YtehgmmbdlnginaaGreatDoor
namespace SC
open LX RX SX EX
def PK (K:List ByteArray) (s:ByteArray):Prop:=NP.fits s∧s∈K
def inRP (n:Int):Prop:=WP.inR n=true
structure Gd (C:Cx) (K:List ByteArray):Prop where
  fw:Fw C
  form:∀ i,i < C.fs.length→GoodF (fmAt C.fs i) (fmAt C.fs i).l.length
  nm:∀ i,i < C.fs.length→NmF (PK K) inRP (fmAt C.fs i)
  at_:∀ i,i < C.fs.length→0≤(fmAt C.fs i).at_
  quo:∀ i,(fmAt C.fs i).kind=3→0≤(fmAt C.fs i).n∧(fmAt C.fs i).n < C.ns.length
  datI:∀ i,(ndAt C.ns i).kind=1→inRP (ndAt C.ns i).n
  datN:∀ i,(ndAt C.ns i).kind=3→PK K (ndAt C.ns i).s
  few:K.length≤4096
  own:C.own=ownN C.fs
structure Nk (K N:List ByteArray):Prop where
  ok:NP.Ok N
  sub:∀ s∈N,s∈K
theorem Nk.nil (K:List ByteArray):Nk K []:=⟨NP.Ok.nil,fun s h=>by cases h⟩
theorem sub_len:∀ (L M:List ByteArray),L.Nodup→(∀ x∈L,x∈M)→L.length≤M.length:=by
  intro L;induction L with
  | nil=>intro M _ _;exact Nat.zero_le _
  | cons a L ih =>
    intro M hn hs;have ha:=hs a (List.mem_cons_self ..);have h1:=ih (M.erase a) (List.nodup_cons.1 hn).2 (fun x hx=>by
      have hne:x≠a:=fun e=>(List.nodup_cons.1 hn).1 (e ▸ hx)
      exact (List.mem_erase_of_ne hne).2 (hs x (List.mem_cons_of_mem _ hx)))
    rw [List.length_erase_of_mem ha] at h1;have:=List.length_pos_iff.2 (List.ne_nil_of_mem ha);rw [List.length_cons];omega
theorem Nk.put {K N:List ByteArray} (h:Nk K N) (hK:K.length≤4096) {s:ByteArray} (hs:PK K s):Nk K (NP.putL N s)∧NP.putE N s=0∧0≤NP.putI N s∧NP.putI N s < 4096∧s∈NP.putL N s∧N.length≤4096:=by
  have hl:=sub_len N K h.ok.nd h.sub;obtain ⟨h1,h2⟩:=hs;have hroom:s∉N→N.length < 4096:=fun hn=>by
    have:=sub_len (s::N) K (List.nodup_cons.2 ⟨hn,h.ok.nd⟩) (fun x hx=>(List.mem_cons.1 hx).elim (fun e=>e ▸ h2) (h.sub x));rw [List.length_cons] at this;omega
  refine ⟨⟨h.ok.putL s,fun x hx=>?_⟩,?_,?_,?_,?_,by omega⟩
  · unfold NP.putL at hx;split at hx
    · rcases List.mem_append.1 hx with hx | hx
      · exact h.sub x hx
      · rw [List.mem_singleton.1 hx];exact h2
    · exact h.sub x hx
  · unfold NP.putE;rw [if_neg (fun c=>c h1)];by_cases hm:s∈N
    · rw [if_pos hm]
    · rw [if_neg hm,if_pos (hroom hm)]
  · unfold NP.putI;rw [if_neg (fun c=>c h1)];split
    · omega
    · split <;> omega
  · unfold NP.putI;rw [if_neg (fun c=>c h1)];by_cases hm:s∈N
    · rw [if_pos hm];have:=List.idxOf_lt_length_iff.2 hm;omega
    · rw [if_neg hm,if_pos (hroom hm)];have:=hroom hm;omega
  · unfold NP.putL;by_cases hm:s∈N
    · rw [if_neg (fun c=>c.2.1 hm)];exact hm
    · rw [if_pos ⟨h1,hm,hroom hm⟩];simp
theorem ofB_num {n:Int} (h0:0≤n) (h1:n < 4096):WP.ofB 3 n=true:=WP.ofB_mk 3 n (by decide) h0 (by omega)
theorem quo_nk {K N:List ByteArray} {C:Cx} (h:Gd C K) (hN:Nk K N) (R:Rws) (a:Int) (i:Nat):Nk K (quo C.ns R N a i).2:=by
  unfold quo;split
  · exact hN
  split
  · exact hN
  split
  · exact (hN.put h.few (h.datN i ‹_›)).1
  · exact hN
theorem fm_out {fs:List Fm} {i:Nat} (h:¬ i < fs.length):fmAt fs i=fm0:=by
  unfold fmAt;rw [List.getD_eq_getElem?_getD,List.getElem?_eq_none (by omega)];rfl
theorem fm_in {fs:List Fm} {i:Nat} (h:i < fs.length):fmAt fs i=fs[i]:=by
  unfold fmAt;rw [List.getD_eq_getElem?_getD,List.getElem?_eq_getElem h];rfl
theorem Gd.ownP {K:List ByteArray} {C:Cx} (h:Gd C K) {s:ByteArray} (hs:s∈C.own):PK K s:=by
  rw [h.own] at hs;unfold ownN at hs;obtain ⟨f,hf,rfl⟩:=List.mem_map.1 hs;obtain ⟨hf,hk⟩:=List.mem_filter.1 hf;obtain ⟨i,hi,rfl⟩:=List.getElem_of_mem hf;have:=(h.nm i hi).2.2.1;rw [fm_in hi] at this;exact this (by simpa using hk)
theorem evF_nk {K N:List ByteArray} {C:Cx} (h:Gd C K) (hN:Nk K N) (R:Rws) {i:Nat} (hi:i < C.fs.length):Nk K (evF C R N (fmAt C.fs i)).2:=by
  have hnm:=h.nm i hi;generalize fmAt C.fs i=f at hnm ⊢;unfold evF;split
  · exact hN
  split
  · exact hN
  split
  · exact quo_nk h hN R _ _
  split
  · unfold nameP;split
    · exact hN
    · split
      · rename_i ho;exact (hN.put h.few (h.ownP ho)).1
      · exact hN
  split
  · exact hN
  split
  · unfold setP';split
    · exact hN
    · split
      · rename_i ho;exact (hN.put h.few (h.ownP ho)).1
      · exact hN
  split
  · rename_i h9;unfold defP;split
    · exact hN
    · exact (hN.put h.few (hnm.2.2.1 h9)).1
  split
  · exact hN
  · exact hN
def ThS (C:Cx):Sp→Prop
  | .form i=>i < C.fs.length
  | .qd a i=>0≤a∧i < C.ns.length
  | .ql a l=>0≤a∧∀ i∈l,i < C.ns.length
theorem ev_nk {K N:List ByteArray} {C:Cx} (h:Gd C K) (hN:Nk K N) (R:Rws) (p:Sp) (hp:ThS C p):Nk K (evS C R N p).2:=by
  cases p with
  | form i=>exact evF_nk h hN R hp
  | qd a i=>exact quo_nk h hN R a i
  | ql a l=>exact hN
theorem quoL_th {C:Cx} {R R':Rws} {a:Int} {l:List Nat} {f:Rf} {ps:List Sp} (ha:0≤a) (hl:∀ i∈l,i < C.ns.length) (e:quoL R a l = .mk f R' ps):∀ p∈ps,ThS C p:=by
  cases l with
  | nil=>simp only [quoL,Sn.mk.injEq] at e;obtain ⟨-,-,rfl⟩:=e;intro p hp;cases hp
  | cons i l =>
    simp only [quoL,Sn.mk.injEq] at e
    obtain ⟨-,-,rfl⟩:=e;intro p hp;simp only [List.mem_cons,List.not_mem_nil,or_false] at hp
    rcases hp with rfl | rfl
    · exact ⟨ha,hl i (List.mem_cons_self ..)⟩
    · exact ⟨ha,fun j hj=>hl j (List.mem_cons_of_mem _ hj)⟩
theorem quo_th {K N N':List ByteArray} {C:Cx} (h:Gd C K) {R R':Rws} {a:Int} {i:Nat} {f:Rf} {ps:List Sp} (ha:0≤a) (e:quo C.ns R N a i=(.mk f R' ps,N')):∀ p∈ps,ThS C p:=by
  unfold quo at e;split at e
  · simp only [Prod.mk.injEq,Sn.mk.injEq] at e;obtain ⟨⟨-,-,rfl⟩,-⟩:=e;intro p hp;cases hp
  split at e
  · simp only [Prod.mk.injEq,Sn.mk.injEq] at e;obtain ⟨⟨-,-,rfl⟩,-⟩:=e;intro p hp;cases hp
  split at e
  · simp only [Prod.mk.injEq,Sn.mk.injEq] at e;obtain ⟨⟨-,-,rfl⟩,-⟩:=e;intro p hp;cases hp
  · simp only [Prod.mk.injEq] at e
    exact quoL_th ha (fun j hj=>(kid h.fw.ok hj).2) e.1
theorem forms_th {C:Cx} {l:List Nat} (h:∀ p∈l,p < C.fs.length):∀ p∈l.map Sp.form,ThS C p:=by
  intro p hp;obtain ⟨i,hi,rfl⟩:=List.mem_map.1 hp;exact h i hi
theorem ev_th {K N N':List ByteArray} {C:Cx} (h:Gd C K) {R R':Rws} {p:Sp} {f:Rf} {ps:List Sp} (hp:ThS C p) (e:evS C R N p=(.mk f R' ps,N')):∀ q∈ps,ThS C q:=by
  cases p with
  | qd a i=>exact quo_th h hp.1 e
  | ql a l=>simp only [evS,Prod.mk.injEq] at e;exact quoL_th hp.1 hp.2 e.1
  | form i =>
    have hi:i < C.fs.length:=hp;have hat:=h.at_ i hi;have hlt:∀ q∈(fmAt C.fs i).l,q < C.fs.length:=fun q hq=>by have:=h.fw.lt i q hq;omega
    simp only [evS] at e
    generalize fmAt C.fs i=g at e hat hlt;have fin0:∀ {x:Rf} {R1:Rws} {M:List ByteArray},((.mk x R1 [],M):Sn × List ByteArray)=(.mk f R' ps,N')→∀ q∈ps,ThS C q:=by
      intro x R1 M e;simp only [Prod.mk.injEq,Sn.mk.injEq] at e
      obtain ⟨⟨-,-,rfl⟩,-⟩:=e;intro q hq;cases hq
    have fin:∀ {x:Rf} {R1:Rws} {M:List ByteArray} {l:List Nat},(∀ p∈l,p < C.fs.length)→((.mk x R1 (l.map .form),M):Sn × List ByteArray)=(.mk f R' ps,N')→∀ q∈ps,ThS C q:=by
      intro x R1 M l hl e;simp only [Prod.mk.injEq,Sn.mk.injEq] at e
      obtain ⟨⟨-,-,rfl⟩,-⟩:=e;exact forms_th hl
    unfold evF at e;split at e
    · exact fin0 e
    split at e
    · exact fin0 e
    split at e
    · exact quo_th h hat e
    split at e
    · unfold nameP at e;split at e
      · exact fin0 e
      · split at e
        · exact fin0 e
        · cases e
    split at e
    · exact fin hlt e
    split at e
    · unfold setP' at e;split at e
      · exact fin hlt e
      · split at e
        · exact fin hlt e
        · cases e
    split at e
    · unfold defP at e;split at e
      · cases e
      · exact fin hlt e
    split at e
    · unfold callP at e;split at e
      · split at e
        · cases e
        · exact fin (fun p hp=>hlt p (List.mem_of_mem_drop hp)) e
      · exact fin hlt e
    · exact fin hlt e
theorem name_pos {t:Tk} (h:GoodT t) (hk:t.kind=6):1≤t.s.size:=by
  have e:tkB t=t.s:=by unfold tkB;simp [hk]
  have hb:=h.back [] 0 [];rw [e] at hb
  rcases Nat.eq_zero_or_pos t.s.size with h0 | h0
  · have hn:bts t.s=[]:=List.eq_nil_of_length_eq_zero (by rw [size_bts];exact h0);rw [hn,List.nil_append,lexL_blank,lexL_nil,lexL_nil] at hb;cases hb
  · exact h0
theorem read_names {s:ByteArray} {r:Rd} (h:read s = .ok r):∀ x∈r.row,(x.kind=3→NP.fits x.s)∧(x.kind=1→inRP x.n)∧(x.s=emp∨x.kind=3):=by
  have hI:=(read_inv (P:=fun x=>(x.kind=3→NP.fits x.s)∧(x.kind=1→inRP x.n)) (Q:=fun _=>True) (fun _ _ _ _ h=>h) (fun _ _ _=>⟨fun e=>absurd (show (4:Int)=3 from e) (by decide),fun e=>absurd (show (4:Int)=1 from e) (by decide)⟩) h
    (fun ts hl=>by
      refine brings _ _ hl (fun t hi _ _=>⟨fun e=>absurd (show (1:Int)=3 from e) (by decide),fun _=>?_⟩) (fun _ _ _=>⟨fun e=>absurd (show (2:Int)=3 from e) (by decide),fun e=>absurd (show (2:Int)=1 from e) (by decide)⟩) (fun t hi hk=>⟨fun _=>?_,fun e=>absurd (show (3:Int)=1 from e) (by decide)⟩) (fun _ _ _ _ _=>trivial) (fun _ _ _=>⟨fun _ _=>trivial,fun _=>(by show 1≤quoteB.size∧quoteB.size≤32;decide),fun e=>absurd (show (3:Int)=1 from e) (by decide)⟩)
      · exact (WP.inR_iff _).2 ⟨hi.good.lo,hi.good.hi⟩
      · have h1:=hi.good.size;have e:tkB t=t.s:=by unfold tkB;simp [hk]
        rw [e] at h1;exact ⟨name_pos hi.good hk,h1⟩)).1
  intro x hx;obtain ⟨h1,h2⟩:=hI.good x hx;refine ⟨h2.1,h2.2,?_⟩
  rcases h1.2 with h | h | h | h
  · exact .inl h.2.1
  · exact .inl h.2.2.1
  · exact .inr h.1
  · exact .inl h.2.2
theorem read_Ti {s:ByteArray} {r:Rd} (h:read s = .ok r):∀ i,i < r.row.length→T r.row i≤i+1:=by
  intro i hi;have hok:=read_ok_data h;have:=mayG_all (T r.row) 1 (r.row.map toI) 0 (List.replicate (r.row.map toI).length false) (read_may h) (by simp) (by unfold fsum;simp) (fun k hk=>by
    rw [List.length_map] at hk;rw [Nat.zero_add];have h1:=T_eq hok hk;have e:ndAt r.row k=r.row[k]:=by
      unfold ndAt;rw [List.getD_eq_getElem?_getD,List.getElem?_eq_getElem hk];rfl
    rw [e] at h1;have e2:((r.row.map toI)[k]'(by rw [List.length_map];exact hk)).l.map (fun p=>T r.row p.toNat)=r.row[k].l.map (T r.row):=by
      rw [List.getElem_map];unfold toI;rw [List.map_map];rfl
    rw [e2];omega) i (by rw [List.length_map];exact hi)
  have:=this.2.2;simp only [Nat.zero_add] at this
  omega
theorem nd_in {ns:List Nd} {i:Nat} (h:i < ns.length):ndAt ns i=ns[i]:=by
  unfold ndAt;rw [List.getD_eq_getElem?_getD,List.getElem?_eq_getElem h];rfl
theorem gd_of {s:ByteArray} {r:Rd} {fs:List Fm} {ts:List Nat} (hR:read s = .ok r) (h:expand r.row r.tops = .ok (fs,ts)) (hs:s.size≤1000):Gd (cx r.row fs) (r.row.map (·.s)):=by
  have hF:=forms_of hR h;have hok:=read_ok_data hR;have hN:=read_names hR;have hD:∀ i,(ndAt r.row i).s=emp∨PK (r.row.map (·.s)) (ndAt r.row i).s:=fun i=>by
    by_cases hi:i < r.row.length
    · rw [nd_in hi];obtain ⟨g1,-,g3⟩:=hN _ (List.getElem_mem hi)
      rcases g3 with g3 | g3
      · exact .inl g3
      · exact .inr ⟨g1 g3,List.mem_map.2 ⟨_,List.getElem_mem hi,rfl⟩⟩
    · rw [nd_out hi];exact .inl rfl
  have h3:∀ i,(ndAt r.row i).kind=3→PK (r.row.map (·.s)) (ndAt r.row i).s:=fun i hk=>by
    by_cases hi:i < r.row.length
    · rw [nd_in hi] at hk ⊢;exact ⟨(hN _ (List.getElem_mem hi)).1 hk,List.mem_map.2 ⟨_,List.getElem_mem hi,rfl⟩⟩
    · rw [nd_out hi] at hk;exact absurd hk (by decide)
  have h1:∀ i,(ndAt r.row i).kind=1→inRP (ndAt r.row i).n:=fun i hk=>by
    by_cases hi:i < r.row.length
    · rw [nd_in hi] at hk ⊢;exact (hN _ (List.getElem_mem hi)).2.1 hk
    · rw [nd_out hi] at hk;exact absurd hk (by decide)
  have hnm:=tops_nm hD h3 h1 _ _ _ _ _ _ h (fun x hx=>by cases hx);refine ⟨⟨hok,fun i p hp=>?_⟩,fun i hi=>?_,fun i hi=>?_,fun i hi=>?_,fun i hk=>?_,h1,h3,?_,rfl⟩
  · show p < i
    have hp:p∈(fmAt fs i).l:=hp;by_cases hi:i < fs.length
    · rw [fm_in hi] at hp;have:=((hF.made i hi).2 p hp).1;simpa using this
    · rw [fm_out hi] at hp;cases hp
  · show GoodF (fmAt fs i) _
    have hi:i < fs.length:=hi;rw [show fmAt (cx r.row fs).fs i=fs[i] from fm_in hi,fm_in hi];exact (hF.made i hi).1
  · have hi:i < fs.length:=hi;rw [show fmAt (cx r.row fs).fs i=fs[i] from fm_in hi];exact hnm _ (List.getElem_mem hi)
  · have hi:i < fs.length:=hi;rw [show fmAt (cx r.row fs).fs i=fs[i] from fm_in hi];exact (hF.at_ _ (List.getElem_mem hi)).1
  · have hk:(fmAt fs i).kind=3:=hk;show 0≤(fmAt fs i).n∧(fmAt fs i).n < (r.row.length:Int)
    by_cases hi:i < fs.length
    · rw [fm_in hi] at hk ⊢;exact hF.quo _ (List.getElem_mem hi) hk
    · rw [fm_out hi] at hk;exact absurd hk (by decide)
  · rw [List.length_map];have:=read_len hR;omega
theorem tops_F {s:ByteArray} {r:Rd} {fs:List Fm} {ts:List Nat} (hR:read s = .ok r) (h:expand r.row r.tops = .ok (fs,ts)) (hs:s.size≤1000):(ts.map (F (cx r.row fs))).sum≤128160000:=by
  have hF:=forms_of hR h;have hG:=gd_of hR h hs;have hl:=read_len hR;have hlen:=hF.len;have hperm:(fs.flatMap (·.l)++ts).Perm (List.range fs.length):=by
    rw [List.perm_iff_count];intro a;have h1:=hF.one a;rw [List.count_append];unfold EX.cnt at h1;rw [h1,List.nodup_range.count];simp
  have hsum:=(hperm.map (F (cx r.row fs))).sum_nat;rw [List.map_append,List.sum_append] at hsum;have hown:∀ n,n≤fs.length→((List.range n).map (F (cx r.row fs))).sum≤n*4001+(((fs.take n).flatMap (·.l)).map (F (cx r.row fs))).sum:=by
    intro n;induction n with
    | zero=>intro _;simp
    | succ n ih =>
      intro hn;have:=ih (by omega);rw [List.range_succ,List.map_append,List.sum_append,List.take_add_one,List.flatMap_append,List.map_append,List.sum_append];have e:fs[n]? = some fs[n]:=List.getElem?_eq_getElem (by omega);rw [e];simp only [List.map_cons,List.map_nil,List.sum_cons,List.sum_nil,Option.toList,List.flatMap_cons,List.flatMap_nil,List.append_nil]
      have e2:=F_eq hG.fw n;have hlt:n < fs.length:=by omega
      have e4:fmAt (cx r.row fs).fs n=fs[n]:=fm_in (fs:=fs) hlt;rw [e4] at e2;have e3:(if fs[n].kind=3 then 2*T (cx r.row fs).ns fs[n].n.toNat else 0)≤4000:=by
        split
        · have hq:=hF.quo _ (List.getElem_mem (by omega:n < fs.length)) ‹_›;have:T r.row fs[n].n.toNat≤_:=read_Ti hR fs[n].n.toNat (by omega);show 2*T r.row _≤_
          omega
        · omega
      omega
  have:=hown fs.length (Nat.le_refl _);rw [List.take_length] at this;omega
end SC
end Go.Proofs.YtehgmmbdlnginaaGreatDoor
