/-
  Several texts in one: ExpTp1,ExpTp2,ScoMach,ScoNam.
-/
import Derived.Test.YtodjaabcjojlkaaDoorQExpKd1
import Derived.Test.YtodjaabcjojlkaaDoorQExpDta
import Derived.Test.YtodjaabcjojlkaaDoorQShowBackP
import Derived.Test.YtodjaabcjojlkaaDoorQScoRf
namespace Go.Proofs.YtodjaabcjojlkaaDoor
namespace EX
open LX RX SX
theorem read_wt {s:ByteArray} {r:Rd} (h:read s = .ok r):∀ i∈r.tops,i < r.row.length∧wt r.row (.top i)≤16*r.row.length:=fun i hi=>by
  refine ⟨read_tops_lt h i hi,?_⟩
  have h1:=sum_mem (f:=fun i=>T r.row i) hi;have h2:=read_T h;have:wt r.row (.top i)=16*T r.row i - 8:=rfl;have h3:T r.row i≤(r.tops.map (T r.row)).sum:=h1;omega
def LexAll (D:List UInt8) (U:List Tk):Prop:=∀ (rest:List UInt8) (p:Nat) (out:List Tk),∃ T,T.map bareT=U∧lexL (D++rest) p out=lexL rest (p+D.length) (out++T)
theorem LexAll.to {D:List UInt8} {U:List Tk} (h:LexAll D U):LexTo D U:=fun rest _ p out=>h rest p out
theorem LexAll.nil:LexAll [] []:=fun rest p out=>⟨[],rfl,by simp⟩
theorem LexAll.app {A B:List UInt8} {U V:List Tk} (hA:LexAll A U) (hB:LexAll B V):LexAll (A++B) (U++V):=by
  intro rest p out;obtain ⟨T,e1,e2⟩:=hA (B++rest) p out;obtain ⟨S,e3,e4⟩:=hB rest (p+A.length) (out++T);refine ⟨T++S,by rw [List.map_append,e1,e3],?_⟩
  rw [List.append_assoc,e2,e4,List.length_append,List.append_assoc,Nat.add_assoc]
end EX
end Go.Proofs.YtodjaabcjojlkaaDoor
namespace Go.Proofs.YtodjaabcjojlkaaDoor
namespace EX
open LX RX SX
def Quo (N:Nat) (f:Fm):Prop:=f.kind=3→0≤f.n∧f.n < (N:Int)
def QuoPl (N:Nat):Pl→Prop
  | .mk f _=>Quo N f
  | _=>True
theorem quo_ne {N:Nat} {k a n:Int} {s:ByteArray} {p:List ByteArray} {l:List Nat} (h:k≠3):Quo N ⟨k,a,n,s,p,l⟩:=fun e=>absurd e h
theorem quo_choose (N:Nat) (a:Int) (x y z:Pt):QuoPl N (choosePl a x y z):=quo_ne (by decide)
theorem quo_truth (N:Nat) (a n:Int):QuoPl N (truth a n):=quo_ne (by decide)
theorem quo_function (N:Nat) (a:Int) (ns:List ByteArray) (b:Pt):QuoPl N (function a ns b):=quo_ne (by decide)
theorem quo_definition (N:Nat) (a:Int) (s:ByteArray) (v:Pt):QuoPl N (definition a s v):=quo_ne (by decide)
theorem quo_call (N:Nat) (a:Int) (ns:List ByteArray) (b:Pt) (vs:List Pt):QuoPl N (call a ns b vs):=quo_ne (by decide)
theorem quo_nested (N:Nat) (a:Int) (names:List ByteArray) (vs:List Nat) (b:Pt):QuoPl N (nestedP a names vs b):=by
  match names,vs with
  | [],_=>trivial
  | _::_,[]=>trivial
  | n::ns,v::vs=>exact quo_call _ _ _ _ _
theorem quo_and (N:Nat) (a:Int) (l:List Nat):QuoPl N (andP a l):=by
  match l with
  | []=>exact quo_truth _ _ _
  | [x]=>trivial
  | x::y::l=>exact quo_choose _ _ _ _ _
theorem quo_or (N:Nat) (a:Int) (l:List Nat):QuoPl N (orP a l):=by
  match l with
  | []=>exact quo_truth _ _ _
  | [x]=>trivial
  | x::y::l=>exact quo_call _ _ _ _ _
theorem quo_cond (N:Nat) (ns:List Nd) (a:Int) (l:List Nat):QuoPl N (condP ns a l):=by
  match l with
  | []=>exact quo_truth _ _ _
  | c::cs =>
    unfold condP;simp only []
    exact ite_of (QuoPl N) (fun _=>trivial) fun _=>ite_of (QuoPl N) (fun _=>quo_choose _ _ _ _ _) fun _=>ite_of (QuoPl N) (fun _=>trivial) fun _=>trivial
theorem quo_list {ns:List Nd} (d:Nd) (hin:∀ i∈d.l,i < ns.length) (top:Bool):QuoPl ns.length (listP ns d top):=by
  unfold listP;refine ite_of (QuoPl ns.length) (fun _=>trivial) fun _=>?_
  refine ite_of (QuoPl ns.length) (fun _=>?_) fun _=>quo_ne (by decide)
  have hr:∀ i∈d.l.drop 1,i < ns.length:=fun i hi=>hin i (mem_drop1 hi)
  generalize d.l.drop 1=r at hr;refine shape_of (QuoPl ns.length) trivial (fun h=>?_) (fun _ _=>quo_choose _ _ _ _ _) ?_ ?_ (fun _=>trivial) ?_ ?_ ?_ (fun _=>quo_cond _ _ _ _) (quo_and _ _ _) (quo_or _ _ _) (fun _=>quo_choose _ _ _ _ _) (fun _=>quo_choose _ _ _ _ _)
  · intro _;have h1:r.getD 0 0 < ns.length:=hr _ (mem_getD (by omega));show 0≤((r.getD 0 0:Nat):Int)∧((r.getD 0 0:Nat):Int) < _
    omega
  · intro _;unfold lambdaP;simp only []
    split
    · trivial
    · exact ite_of (QuoPl ns.length) (fun _=>quo_function _ _ _ _) fun _=>trivial
  · intro _;unfold setP;split
    · trivial
    · exact quo_ne (by decide)
  · intro _;unfold defineP;refine ite_of (QuoPl ns.length) (fun _=>trivial) fun _=>ite_of (QuoPl ns.length) (fun _=>?_) fun _=>?_
    · unfold defineF;split
      · exact quo_definition _ _ _ _
      · trivial
    · split
      · trivial
      · exact ite_of (QuoPl ns.length) (fun _=>trivial) fun _=>quo_definition _ _ _ _
  · intro _;unfold letP;split
    · trivial
    · split
      · trivial
      · exact quo_call _ _ _ _ _
  · intro _;unfold starP;split
    · trivial
    · split
      · trivial
      · exact quo_nested _ _ _ _ _
theorem quo_plan {ns:List Nd} (hok:Ok ns) (i:Nat) (top:Bool):QuoPl ns.length (plan ns i top):=by
  unfold plan;simp only []
  refine ite_of (QuoPl ns.length) (fun _=>quo_ne (by decide)) fun _=>?_
  refine ite_of (QuoPl ns.length) (fun _=>quo_ne (by decide)) fun _=>?_
  refine ite_of (QuoPl ns.length) (fun _=>?_) fun _=>quo_list _ (fun p hp=>(kid hok hp).2) top
  exact ite_of (QuoPl ns.length) (fun _=>trivial) fun _=>quo_ne (by decide)
theorem quo_ev {ns:List Nd} (hok:Ok ns) (p:Pt):QuoPl ns.length (ev ns p):=by
  cases p with
  | top i=>exact quo_plan hok i true
  | dat i=>exact quo_plan hok i false
  | seq a l=>exact quo_ne (by decide)
  | tr a n=>exact quo_truth _ _ _
  | kept a=>exact quo_ne (by decide)
  | fn a nm b=>exact quo_function _ _ _ _
  | nested a nm vs b=>exact quo_nested _ _ _ _ _
  | cond a l=>exact quo_cond _ _ _ _
  | and a l=>exact quo_and _ _ _
  | or a l=>exact quo_or _ _ _
  | orb a l=>exact quo_choose _ _ _ _ _
theorem runs_quo {N:Nat} {F:Pt→List Fm→Except Int (List Fm × Nat)} (hF:∀ p st st' k,F p st = .ok (st',k)→(∀ x∈st,Quo N x)→∀ x∈st',Quo N x) :
    ∀ (ps:List Pt) (st st':List Fm) (l l':List Nat),runs F ps st l = .ok (st',l')→(∀ x∈st,Quo N x)→∀ x∈st',Quo N x:=by
  intro ps;induction ps with
  | nil =>
    intro st st' l l' e h;simp only [runs,Except.ok.injEq,Prod.mk.injEq] at e
    rw [← e.1];exact h
  | cons p ps ih =>
    intro st st' l l' e h;unfold runs at e;cases hr:F p st with
    | error a=>rw [hr] at e;cases e
    | ok r =>
      obtain ⟨s1,k⟩:=r;rw [hr] at e;exact ih s1 st' _ _ e (hF p st s1 k hr h)
theorem run_quo {ns:List Nd} (hok:Ok ns):∀ (f:Nat) (p:Pt) (st st':List Fm) (k:Nat),run ns f p st = .ok (st',k)→(∀ x∈st,Quo ns.length x)→∀ x∈st',Quo ns.length x:=by
  intro f;induction f with
  | zero=>intro p st st' k e;cases e
  | succ f ih =>
    intro p st st' k e h;have hq:=quo_ev hok p;unfold run at e;generalize ev ns p=pl at hq e;cases pl with
    | bad a=>cases e
    | ins q=>exact ih q st st' k e h
    | mk fm ps =>
      unfold onPl at e;simp only at e
      cases hr:runs (run ns f) ps st [] with
      | error a=>rw [hr] at e;cases e
      | ok r =>
        obtain ⟨s1,l⟩:=r;rw [hr] at e;simp only [Except.ok.injEq,Prod.mk.injEq] at e
        obtain ⟨rfl,rfl⟩:=e;intro x hx
        rcases List.mem_append.1 hx with hx | hx
        · exact runs_quo ih ps st s1 [] l hr h x hx
        · rw [List.mem_singleton.1 hx];exact hq
theorem tops_quo {ns:List Nd} (hok:Ok ns) (f:Nat):∀ (l:List Nat) (st st':List Fm) (t t':List Nat),runTops ns f l st t = .ok (st',t')→(∀ x∈st,Quo ns.length x)→∀ x∈st',Quo ns.length x:=by
  intro l;induction l with
  | nil=>intro st st' t t' e h;simp only [runTops,Except.ok.injEq,Prod.mk.injEq] at e;rw [← e.1];exact h
  | cons i l ih =>
    intro st st' t t' e h;unfold runTops at e;cases hr:run ns f (.top i) st with
    | error a=>rw [hr] at e;cases e
    | ok r =>
      obtain ⟨s1,k⟩:=r;rw [hr] at e;exact ih s1 st' _ _ e (run_quo hok f _ st s1 k hr h)
theorem tops_at {ns:List Nd} (hok:Ok ns) {Q:Int→Prop} (h:∀ i,i < ns.length→Q (ndAt ns i).at_) {f:Nat} {l:List Nat} (hl:∀ i∈l,i < ns.length∧wt ns (.top i)≤f) {st:List Fm} {t:List Nat} (e:runTops ns f l [] [] = .ok (st,t)):∀ x∈st,Q x.at_:=by
  have:=tops_E (A:=fun x _=>Q x) (rows_self h) hok (E:=0) (pre:=[]) f l [] [] [] [] hl ⟨rfl,[],rfl,rfl,fun k hk=>absurd hk (by simp)⟩;have e2:l.map (· + 0)=l:=by simp
  rw [e2,List.map_nil,List.nil_append,e] at this;obtain ⟨⟨_,m,e3,e4,e5⟩,_⟩:=this;intro x hx;obtain ⟨k,hk,rfl⟩:=List.getElem_of_mem hx;exact (e5 k hk (by have:m.length=st.length:=e4;omega)).fm.at_
structure FormsOf (s:ByteArray) (r:Rd) (fs:List Fm) (ts:List Nat):Prop where
  at_:∀ x∈fs,0≤x.at_∧x.at_ < s.size
  quo:∀ x∈fs,Quo r.row.length x
  len:fs.length≤32*s.size
  tlen:ts.length=r.tops.length
  made:AllF [] fs
  one:∀ a,cnt fs a+ts.count a=if a < fs.length then 1 else 0
theorem forms_of {s:ByteArray} {r:Rd} {fs:List Fm} {ts:List Nat} (hR:read s = .ok r) (h:expand r.row r.tops = .ok (fs,ts)):FormsOf s r fs ts:=by
  have hok:=read_ok_data hR;have hI:=(read_plain hR).1;obtain ⟨m,ks,e1,e2,h3,h4⟩:=runTops_made _ _ _ _ _ _ h;rw [List.nil_append] at e1 e2;subst e1 e2;have hl:=runTops_len hok _ _ _ _ _ _ h;have hw:=sum_wt r.row r.tops;rw [read_T hR] at hw;have h2:=read_len hR;refine ⟨tops_at hok (Q:=fun x=>0≤x∧x < s.size) (fun i hi=>?_) (fun i hi=>read_wt hR i hi) h,tops_quo hok _ _ _ _ _ _ h (fun x hx=>by cases hx),?_,?_,h3,fun a=>?_⟩
  · have e:ndAt r.row i=r.row[i]:=by
      unfold ndAt;rw [List.getD_eq_getElem?_getD,List.getElem?_eq_getElem hi];rfl
    rw [e];obtain ⟨g1,g2⟩:=hI.good _ (List.getElem_mem hi);exact ⟨g1.1,g2⟩
  · have:=hl.1;simp only [List.length_nil] at this
    omega
  · have:=hl.2;simp only [List.length_nil] at this
    omega
  · have:=h4 a;simpa using this
end EX
end Go.Proofs.YtodjaabcjojlkaaDoor
namespace Go.Proofs.YtodjaabcjojlkaaDoor
namespace SC
open LX RX SX EX
structure Oq where
  f:Rf
  ps:List Sp
def Oq.add (o:Oq) (i:Nat):Oq:=⟨{ o.f with l:=o.f.l++[i] },o.ps⟩
structure Sq where
  row:List Rf
  tops:List Nat
  R:Rws
  op:List Oq
  next:Option Sp
def popR (k:Int) (R:Rws):Rws:=if k=6 then R.tail else R
def goOnS (row:List Rf) (tops:List Nat) (R:Rws):List Oq→Sq
  | []=>⟨row,tops,R,[],none⟩
  | o::os =>
    if h:o.f.l.length < o.ps.length then ⟨row,tops,R,o::os,some o.ps[o.f.l.length]⟩
    else match os with
      | []=>⟨row++[o.f],tops++[row.length],popR o.f.kind R,[],none⟩
      | o2::os2=>goOnS (row++[o.f]) tops (popR o.f.kind R) (o2.add row.length::os2)
  termination_by os=>os.length
theorem goOnS_nil (row:List Rf) (tops:List Nat) (R:Rws):goOnS row tops R []=⟨row,tops,R,[],none⟩:=by rw [goOnS.eq_def]
theorem goOnS_next (row:List Rf) (tops:List Nat) (R:Rws) (o:Oq) (os:List Oq) (h:o.f.l.length < o.ps.length):goOnS row tops R (o::os)=⟨row,tops,R,o::os,some o.ps[o.f.l.length]⟩:=by
  rw [goOnS.eq_def];simp only []
  rw [dif_pos h]
theorem goOnS_fin (row:List Rf) (tops:List Nat) (R:Rws) (o:Oq) (os:List Oq) (h:¬ o.f.l.length < o.ps.length):goOnS row tops R (o::os)=match os with
      | []=>⟨row++[o.f],tops++[row.length],popR o.f.kind R,[],none⟩
      | o2::os2=>goOnS (row++[o.f]) tops (popR o.f.kind R) (o2.add row.length::os2):=by
  rw [goOnS.eq_def];simp only []
  rw [dif_neg h]
def putS (row:List Rf) (tops:List Nat) (R:Rws) (i:Nat):List Oq→Sq
  | []=>⟨row,tops++[i],R,[],none⟩
  | o::os=>goOnS row tops R (o.add i::os)
abbrev Fin:=Except Er (List ByteArray × List Rf × List Nat)
def goS (C:Cx):Nat→List ByteArray→Sq→Option Fin
  | m,N,s=>match s.next with
    | none=>some (.ok (N,s.row,s.tops))
    | some p=>match m with
      | 0=>none
      | m+1=>match evS C s.R N p with
        | (.bad a e,N')=>some (.error (a,e,N'))
        | (.mk f R' ps,N')=>goS C m N' (goOnS s.row s.tops R' (⟨{ f with l:=[] },ps⟩::s.op))
theorem goS_none (C:Cx) (m:Nat) (N:List ByteArray) (row:List Rf) (tops:List Nat) (R:Rws) (op:List Oq):goS C m N ⟨row,tops,R,op,none⟩=some (.ok (N,row,tops)):=by cases m <;> rfl
theorem goS_zero (C:Cx) (N:List ByteArray) (row:List Rf) (tops:List Nat) (R:Rws) (op:List Oq) (p:Sp):goS C 0 N ⟨row,tops,R,op,some p⟩=none:=rfl
theorem goS_succ (C:Cx) (m:Nat) (N:List ByteArray) (row:List Rf) (tops:List Nat) (R:Rws) (op:List Oq) (p:Sp):goS C (m+1) N ⟨row,tops,R,op,some p⟩=match evS C R N p with
        | (.bad a e,N')=>some (.error (a,e,N'))
        | (.mk f R' ps,N')=>goS C m N' (goOnS row tops R' (⟨{ f with l:=[] },ps⟩::op)):=rfl
theorem goS_mono {C:Cx}:∀ (m:Nat) (N:List ByteArray) (s:Sq) (x:Fin),goS C m N s=some x→∀ k,goS C (m+k) N s=some x:=by
  intro m;induction m with
  | zero =>
    intro N s x h k;obtain ⟨row,tops,R,op,nx⟩:=s;cases nx with
    | none=>rw [goS_none] at h ⊢;exact h
    | some p=>rw [goS_zero] at h;cases h
  | succ m ih =>
    intro N s x h k;obtain ⟨row,tops,R,op,nx⟩:=s;cases nx with
    | none=>rw [goS_none] at h ⊢;exact h
    | some p =>
      rw [show m+1+k=(m+k)+1 by omega,goS_succ];rw [goS_succ] at h;generalize evS C R N p=y at h ⊢;obtain ⟨pl,N'⟩:=y;cases pl with
      | bad a e=>exact h
      | mk f R' ps=>exact ih _ _ _ h k
def afterS (C:Cx) (tops:List Nat) (R:Rws) (os:List Oq) (k:Nat):Out→Option Fin
  | .error e=>some (.error e)
  | .ok (N',row',i)=>goS C k N' (putS row' tops R i os)
theorem putS_done (row:List Rf) (tops:List Nat) (R:Rws) (f:Rf) (ps:List Sp) (os:List Oq) (h:f.l.length=ps.length):goOnS row tops R (⟨f,ps⟩::os)=putS (row++[f]) tops (popR f.kind R) row.length os:=by
  rw [goOnS_fin _ _ _ _ _ (by simp [h])];cases os <;> rfl
theorem pop_ne {k:Int} (h:k≠6) (R:Rws):popR k R=R:=if_neg h
theorem ev_pop {C:Cx} {R:Rws} {N:List ByteArray} {p:Sp} {f:Rf} {R':Rws} {ps:List Sp} {N':List ByteArray} (h:evS C R N p=(.mk f R' ps,N')):popR f.kind R'=R:=by
  have hql:∀ a l,quoL R a l = .mk f R' ps→popR f.kind R'=R:=by
    intro a l e;cases l <;> (simp only [quoL,Sn.mk.injEq] at e;obtain ⟨rfl,rfl,-⟩:=e;rfl)
  have hq:∀ a i,quo C.ns R N a i=(.mk f R' ps,N')→popR f.kind R'=R:=by
    intro a i e;unfold quo at e;split at e
    · simp only [Prod.mk.injEq,Sn.mk.injEq] at e;obtain ⟨⟨rfl,rfl,-⟩,-⟩:=e;rfl
    split at e
    · simp only [Prod.mk.injEq,Sn.mk.injEq] at e;obtain ⟨⟨rfl,rfl,-⟩,-⟩:=e;rfl
    split at e
    · simp only [Prod.mk.injEq,Sn.mk.injEq] at e;obtain ⟨⟨rfl,rfl,-⟩,-⟩:=e;rfl
    · simp only [Prod.mk.injEq] at e;exact hql _ _ e.1
  cases p with
  | qd a i=>exact hq a i h
  | ql a l=>simp only [evS,Prod.mk.injEq] at h;exact hql a l h.1
  | form i =>
    simp only [evS] at h
    generalize fmAt C.fs i=g at h;have fin:∀ {x:Rf} {R1:Rws} {qs:List Sp} {M:List ByteArray},((.mk x R1 qs,M):Sn × List ByteArray)=(.mk f R' ps,N')→popR x.kind R1=R→popR f.kind R'=R:=by
      intro x R1 qs M e e2;simp only [Prod.mk.injEq,Sn.mk.injEq] at e
      obtain ⟨⟨rfl,rfl,-⟩,-⟩:=e;exact e2
    unfold evF at h;split at h
    · exact fin h rfl
    split at h
    · exact fin h rfl
    split at h
    · exact hq _ _ h
    split at h
    · unfold nameP at h;split at h
      · exact fin h rfl
      · split at h
        · exact fin h rfl
        · cases h
    split at h
    · exact fin h rfl
    split at h
    · unfold setP' at h;split at h
      · exact fin h rfl
      · split at h
        · exact fin h rfl
        · cases h
    split at h
    · unfold defP at h;split at h
      · cases h
      · exact fin h rfl
    split at h
    · unfold callP at h;split at h
      · split at h
        · cases h
        · exact fin h rfl
      · exact fin h rfl
    · rename_i h6 _ _ _;exact fin h (pop_ne h6 R)
theorem machS {C:Cx} (h:Fw C):∀ (f:Nat) (p:Sp),wgt C p≤f→∀ (N:List ByteArray) (row:List Rf) (tops:List Nat) (R:Rws) (os:List Oq) (k:Nat) (x:Fin),
    afterS C tops R os k (ex C f R p N row)=some x→goS C (k+wgt C p) N ⟨row,tops,R,os,some p⟩=some x:=by
  intro f;induction f with
  | zero=>intro p hp;have:=wgt_pos C p;omega
  | succ f ih =>
  intro p hp N row tops R os k x hx;have hwp:=wgt_pos C p;have hw:=ev_wg h R N p;have hpop:=@ev_pop C R N p;obtain ⟨w,hwe⟩:∃ w,wgt C p=w+1:=⟨wgt C p - 1,by omega⟩
  rw [hwe,show k+(w+1)=(k+w)+1 by omega,goS_succ];rw [hwe] at hw hp;rw [ex] at hx;generalize evS C R N p=y at hw hpop hx ⊢;obtain ⟨pl,N1⟩:=y;cases pl with
  | bad a e=>exact hx
  | mk fm R1 ps =>
    simp only [wgn] at hw
    have hpop:=hpop rfl;simp only
    have hparts:∀ (rest:List Sp) (done:List Sp) (M:List ByteArray) (st:List Rf) (l:List Nat),ps=done++rest→l.length=done.length→wgts C rest≤f →
        (match (match execs (ex C f R1) rest M st l with | .error e=>Except.error e | .ok (N',st',l')=>.ok (N',st'++[{ fm with l:=l' }],st'.length):Out) with
          | .error e=>some (.error e) | .ok (N',row',i)=>goS C k N' (putS row' tops R i os))=some x →
        goS C (k+wgts C rest) M (goOnS st tops R1 (⟨{ fm with l:=l },ps⟩::os))=some x:=by
      intro rest;induction rest with
      | nil =>
        intro done M st l hps hl _ hxx;rw [putS_done _ _ _ _ _ _ (by rw [hps];simp [hl])];simp only
        rw [hpop];exact hxx
      | cons q rest ihr =>
        intro done M st l hps hl hw2 hxx;rw [wgts_cons] at hw2;rw [wgts_cons];have hlt:l.length < ps.length:=by rw [hps];simp [hl]
        have hq:ps[l.length]=q:=by simp [hps,hl]
        rw [goOnS_next _ _ _ _ _ hlt];simp only [hq]
        unfold execs at hxx;rw [show k+(wgt C q+wgts C rest)=(k+wgts C rest)+wgt C q by omega];refine ih q (by omega) M st tops R1 _ (k+wgts C rest) x ?_
        cases hr:ex C f R1 q M st with
        | error e=>rw [hr] at hxx;exact hxx
        | ok z =>
          obtain ⟨N',st',i⟩:=z;rw [hr] at hxx;exact ihr (done++[q]) N' st' (l++[i]) (by rw [hps];simp) (by simp [hl]) (by omega) hxx
    have:=hparts ps [] N1 row [] rfl rfl (by omega) hx;rw [show k+w=(k+wgts C ps)+(w - wgts C ps) by omega];exact goS_mono _ _ _ _ this _
end SC
end Go.Proofs.YtodjaabcjojlkaaDoor
namespace Go.Proofs.YtodjaabcjojlkaaDoor
namespace EX
open LX RX SX
section
variable {ns:List Nd} {P:ByteArray→Prop} {Q:Int→Prop}
def NmF (P:ByteArray→Prop) (Q:Int→Prop) (f:Fm):Prop:=(f.kind=1→Q f.n)∧(f.kind=4∨f.kind=7→P f.s∨f.s=blank)∧(f.kind=9→P f.s)∧(∀ s∈f.p,P s∨s=blank)∧(f.s=emp∨P f.s∨f.s=blank)
def NmPt (P:ByteArray→Prop):Pt→Prop
  | .fn _ ns b=>(∀ s∈ns,P s∨s=blank)∧NmPt P b
  | .nested _ ns _ b=>(∀ s∈ns,P s)∧NmPt P b
  | _=>True
def NmPl (P:ByteArray→Prop) (Q:Int→Prop):Pl→Prop
  | .bad _=>True
  | .mk f ps=>NmF P Q f∧∀ p∈ps,NmPt P p
  | .ins q=>NmPt P q
theorem nm_frm {k a n:Int} (h:k=1→Q n) (h4:k≠4) (h7:k≠7) (h9:k≠9):NmF P Q (frm k a n):=⟨h,fun e=>e.elim (fun e=>absurd e h4) (fun e=>absurd e h7),fun e=>absurd e h9,fun s hs=>(by cases hs),.inl rfl⟩
theorem nm_body (a:Int) (l:List Nat):NmPt P (body a l):=by
  unfold body;split <;> trivial
theorem nm_dats (l:List Nat):∀ p∈l.map Pt.dat,NmPt P p:=by
  intro p hp;obtain ⟨i,_,rfl⟩:=List.mem_map.1 hp;trivial
theorem nm_choose (a:Int) {x y z:Pt} (hx:NmPt P x) (hy:NmPt P y) (hz:NmPt P z):NmPl P Q (choosePl a x y z):=by
  refine ⟨nm_frm (fun h=>absurd h (by decide)) (by decide) (by decide) (by decide),fun p hp=>?_⟩
  simp only [List.mem_cons,List.not_mem_nil,or_false] at hp
  rcases hp with rfl | rfl | rfl
  · exact hx
  · exact hy
  · exact hz
theorem nm_truth (a n:Int):NmPl P Q (truth a n):=⟨nm_frm (fun h=>absurd h (by decide)) (by decide) (by decide) (by decide),fun p hp=>by cases hp⟩
theorem nm_function (a:Int) {l:List ByteArray} {b:Pt} (hn:∀ s∈l,P s∨s=blank) (hb:NmPt P b):NmPl P Q (function a l b) :=
  ⟨⟨fun h=>absurd (show (6:Int)=1 from h) (by decide),fun h=>h.elim (fun h=>absurd (show (6:Int)=4 from h) (by decide)) (fun h=>absurd (show (6:Int)=7 from h) (by decide)),fun h=>absurd (show (6:Int)=9 from h) (by decide),hn,.inl rfl⟩,fun p hp=>by rw [List.mem_singleton.1 hp];exact hb⟩
theorem nm_definition (a:Int) {s:ByteArray} {v:Pt} (hs:P s) (hv:NmPt P v):NmPl P Q (definition a s v) :=
  ⟨⟨fun h=>absurd (show (9:Int)=1 from h) (by decide),fun h=>h.elim (fun h=>absurd (show (9:Int)=4 from h) (by decide)) (fun h=>absurd (show (9:Int)=7 from h) (by decide)),fun _=>hs,fun x hx=>(by cases hx),.inr (.inl hs)⟩,fun p hp=>by rw [List.mem_singleton.1 hp];exact hv⟩
theorem nm_call (a:Int) {l:List ByteArray} {b:Pt} {vs:List Pt} (hn:∀ s∈l,P s∨s=blank) (hb:NmPt P b) (hv:∀ p∈vs,NmPt P p):NmPl P Q (call a l b vs):=by
  refine ⟨nm_frm (fun h=>absurd h (by decide)) (by decide) (by decide) (by decide),fun p hp=>?_⟩
  rcases List.mem_cons.1 hp with rfl | hp
  · exact ⟨hn,hb⟩
  · exact hv p hp
theorem nm_nested (a:Int) (names:List ByteArray) (vs:List Nat) (b:Pt) (hn:∀ s∈names,P s) (hb:NmPt P b):NmPl P Q (nestedP a names vs b):=by
  match names,vs,hn with
  | [],_,_=>exact hb
  | _::_,[],_=>exact hb
  | n::l,v::vs,hn=>exact nm_call a (fun s hs=>by rw [List.mem_singleton.1 hs];exact .inl (hn n (List.mem_cons_self ..))) ⟨fun s hs=>hn s (List.mem_cons_of_mem _ hs),hb⟩ (fun p hp=>by rw [List.mem_singleton.1 hp];trivial)
theorem nm_and (a:Int) (l:List Nat):NmPl P Q (andP a l):=by
  match l with
  | []=>exact nm_truth a 1
  | [x]=>trivial
  | x::y::l=>exact nm_choose a trivial trivial trivial
theorem nm_or (a:Int) (l:List Nat):NmPl P Q (orP a l):=by
  match l with
  | []=>exact nm_truth a 0
  | [x]=>trivial
  | x::y::l=>exact nm_call a (fun s hs=>.inr (List.mem_singleton.1 hs)) trivial (fun p hp=>by rw [List.mem_singleton.1 hp];trivial)
theorem nm_cond (ns:List Nd) (a:Int) (l:List Nat):NmPl P Q (condP ns a l):=by
  match l with
  | []=>exact nm_truth a 0
  | c::cs =>
    unfold condP;simp only []
    refine ite_of (NmPl P Q) (fun _=>trivial) fun h2=>?_
    exact ite_of (NmPl P Q) (fun _=>nm_choose a trivial (nm_body _ _) trivial) fun _=>ite_of (NmPl P Q) (fun _=>trivial) fun _=>nm_body _ _
variable (hD:∀ i,(ndAt ns i).s=emp∨P (ndAt ns i).s) (h3:∀ i,(ndAt ns i).kind=3→P (ndAt ns i).s) (h1:∀ i,(ndAt ns i).kind=1→Q (ndAt ns i).n)
include hD
theorem nameOf_nm {i:Nat} {s:ByteArray} (h:nameOf ns i=some s):P s:=by
  unfold nameOf at h;split at h
  · cases h
  · rename_i hn;injection h with h;subst h;exact (hD i).elim (fun e=>absurd (.inl e) hn) id
theorem namesG_nm:∀ (l:List Nat) (acc out:List ByteArray),namesG ns l acc=some out→(∀ s∈acc,P s)→∀ s∈out,P s:=by
  intro l;induction l with
  | nil=>intro acc out e h;simp only [namesG,Option.some.injEq] at e;subst e;exact h
  | cons i l ih =>
    intro acc out e h;unfold namesG at e;split at e
    · cases e
    · rename_i s hs;split at e
      · cases e
      · refine ih _ _ e fun x hx=>?_
        rcases List.mem_append.1 hx with hx | hx
        · exact h x hx
        · rw [List.mem_singleton.1 hx];exact nameOf_nm hD hs
theorem names_nm {l:List Nat} {out:List ByteArray} (h:namesOf ns l=some out):∀ s∈out,P s∨s=blank:=fun s hs=>.inl (namesG_nm hD l [] out h (fun s h=>by cases h) s hs)
theorem starG_nm:∀ (l:List Nat) (acc out:List ByteArray),starG ns l acc=some out→(∀ s∈acc,P s)→∀ s∈out,P s:=by
  intro l;induction l with
  | nil=>intro acc out e h;simp only [starG,Option.some.injEq] at e;subst e;exact h
  | cons i l ih =>
    intro acc out e h;unfold starG at e;split at e
    · cases e
    · rename_i s hs;refine ih _ _ e fun x hx=>?_
      rcases List.mem_append.1 hx with hx | hx
      · exact h x hx
      · rw [List.mem_singleton.1 hx];exact nameOf_nm hD hs
theorem nm_list (d:Nd) (top:Bool):NmPl P Q (listP ns d top):=by
  unfold listP;refine ite_of (NmPl P Q) (fun _=>trivial) fun hne=>?_
  refine ite_of (NmPl P Q) (fun _=>?_) fun _=>⟨nm_frm (fun h=>absurd h (by decide)) (by decide) (by decide) (by decide),nm_dats _⟩
  generalize d.l.drop 1=r;refine shape_of (NmPl P Q) trivial (fun _=>⟨nm_frm (fun h=>absurd h (by decide)) (by decide) (by decide) (by decide),fun p hp=>(by cases hp)⟩) ?_ ?_ ?_ (fun h=>nm_body _ _) ?_ ?_ ?_ (fun _=>nm_cond ns _ _) (nm_and _ _) (nm_or _ _) (fun h=>nm_choose _ trivial (nm_body _ _) trivial) (fun h=>nm_choose _ trivial trivial (nm_body _ _))
  · intro _ _;exact nm_choose _ trivial trivial (ite_of (NmPt P) (fun _=>trivial) fun _=>trivial)
  · intro h2;unfold lambdaP;simp only []
    split
    · trivial
    · rename_i names e;exact ite_of (NmPl P Q) (fun _=>nm_function _ (names_nm hD e) (nm_body _ _)) fun _=>trivial
  · intro h2;unfold setP;split
    · trivial
    · rename_i s e;have hs:=nameOf_nm hD e;exact ⟨⟨fun h=>absurd (show (7:Int)=1 from h) (by decide),fun _=>.inl hs,fun _=>hs,fun x hx=>(by cases hx),.inr (.inl hs)⟩,fun p hp=>(by rw [List.mem_singleton.1 hp];trivial)⟩
  · intro h2;unfold defineP;refine ite_of (NmPl P Q) (fun _=>trivial) fun _=>?_
    refine ite_of (NmPl P Q) (fun _=>?_) fun _=>?_
    · unfold defineF;split
      · rename_i s names e1 e2;exact nm_definition _ (nameOf_nm hD e1) ⟨names_nm hD e2,nm_body _ _⟩
      · trivial
    · split
      · trivial
      · rename_i s e;exact ite_of (NmPl P Q) (fun _=>trivial) fun _=>nm_definition _ (nameOf_nm hD e) trivial
  · intro h2;unfold letP;split
    · trivial
    · split
      · trivial
      · rename_i names e;exact nm_call _ (names_nm hD e) (nm_body _ _) (nm_dats _)
  · intro h2;unfold starP;split
    · trivial
    · split
      · trivial
      · rename_i names e;exact nm_nested _ _ _ _ (starG_nm hD _ _ _ e (fun s h=>by cases h)) (nm_body _ _)
include h3 h1
theorem nm_plan (i:Nat) (top:Bool):NmPl P Q (plan ns i top):=by
  unfold plan;simp only []
  refine ite_of (NmPl P Q) (fun e=>⟨nm_frm (fun _=>h1 i e) (by decide) (by decide) (by decide),fun p hp=>(by cases hp)⟩) fun _=>?_
  refine ite_of (NmPl P Q) (fun _=>⟨nm_frm (fun h=>absurd h (by decide)) (by decide) (by decide) (by decide),fun p hp=>(by cases hp)⟩) fun _=>?_
  refine ite_of (NmPl P Q) (fun e=>?_) fun _=>nm_list hD _ top
  by_cases hr:reserved (ndAt ns i).s=true
  · rw [if_pos hr];trivial
  · rw [if_neg hr];exact ⟨⟨fun h=>absurd (show (4:Int)=1 from h) (by decide),fun _=>.inl (h3 i e),fun h=>absurd (show (4:Int)=9 from h) (by decide),fun x hx=>(by cases hx),.inr (.inl (h3 i e))⟩,fun p hp=>(by cases hp)⟩
theorem nm_ev (p:Pt) (h:NmPt P p):NmPl P Q (ev ns p):=by
  cases p with
  | top i=>exact nm_plan hD h3 h1 i true
  | dat i=>exact nm_plan hD h3 h1 i false
  | seq a l=>exact ⟨nm_frm (fun h=>absurd h (by decide)) (by decide) (by decide) (by decide),nm_dats _⟩
  | tr a n=>exact nm_truth _ _
  | kept a=>exact ⟨⟨fun h=>absurd (show (4:Int)=1 from h) (by decide),fun _=>.inr rfl,fun h=>absurd (show (4:Int)=9 from h) (by decide),fun x hx=>(by cases hx),.inr (.inr rfl)⟩,fun p hp=>(by cases hp)⟩
  | fn a nm b=>exact nm_function _ h.1 h.2
  | nested a nm vs b=>exact nm_nested _ _ _ _ h.1 h.2
  | cond a l=>exact nm_cond _ _ _
  | and a l=>exact nm_and _ _
  | or a l=>exact nm_or _ _
  | orb a l=>exact nm_choose _ trivial trivial trivial
omit hD h3 h1 in
theorem runs_nm {F:Pt→List Fm→Except Int (List Fm × Nat)} (hF:∀ p,NmPt P p→∀ st st' k,F p st = .ok (st',k)→(∀ x∈st,NmF P Q x)→∀ x∈st',NmF P Q x) :
    ∀ (ps:List Pt),(∀ p∈ps,NmPt P p)→∀ (st st':List Fm) (l l':List Nat),runs F ps st l = .ok (st',l')→(∀ x∈st,NmF P Q x)→∀ x∈st',NmF P Q x:=by
  intro ps;induction ps with
  | nil =>
    intro _ st st' l l' e h;simp only [runs,Except.ok.injEq,Prod.mk.injEq] at e
    rw [← e.1];exact h
  | cons p ps ih =>
    intro hp st st' l l' e h;unfold runs at e;cases hr:F p st with
    | error a=>rw [hr] at e;cases e
    | ok r =>
      obtain ⟨s1,k⟩:=r;rw [hr] at e;exact ih (fun q hq=>hp q (List.mem_cons_of_mem _ hq)) s1 st' _ _ e (hF p (hp p (List.mem_cons_self ..)) st s1 k hr h)
theorem run_nm:∀ (f:Nat) (p:Pt),NmPt P p→∀ (st st':List Fm) (k:Nat),run ns f p st = .ok (st',k)→(∀ x∈st,NmF P Q x)→∀ x∈st',NmF P Q x:=by
  intro f;induction f with
  | zero=>intro p _ st st' k e;cases e
  | succ f ih =>
    intro p hp st st' k e h;have hq:=nm_ev hD h3 h1 p hp;unfold run at e;generalize ev ns p=pl at hq e;cases pl with
    | bad a=>cases e
    | ins q=>exact ih q hq st st' k e h
    | mk fm ps =>
      unfold onPl at e;simp only at e
      cases hr:runs (run ns f) ps st [] with
      | error a=>rw [hr] at e;cases e
      | ok r =>
        obtain ⟨s1,l⟩:=r;rw [hr] at e;simp only [Except.ok.injEq,Prod.mk.injEq] at e
        obtain ⟨rfl,rfl⟩:=e;intro x hx
        rcases List.mem_append.1 hx with hx | hx
        · exact runs_nm ih ps hq.2 st s1 [] l hr h x hx
        · rw [List.mem_singleton.1 hx];exact hq.1
theorem tops_nm (f:Nat):∀ (l:List Nat) (st st':List Fm) (t t':List Nat),runTops ns f l st t = .ok (st',t')→(∀ x∈st,NmF P Q x)→∀ x∈st',NmF P Q x:=by
  intro l;induction l with
  | nil=>intro st st' t t' e h;simp only [runTops,Except.ok.injEq,Prod.mk.injEq] at e;rw [← e.1];exact h
  | cons i l ih =>
    intro st st' t t' e h;unfold runTops at e;cases hr:run ns f (.top i) st with
    | error a=>rw [hr] at e;cases e
    | ok r =>
      obtain ⟨s1,k⟩:=r;rw [hr] at e;exact ih s1 st' _ _ e (run_nm hD h3 h1 f (.top i) trivial st s1 k hr h)
end
end EX
end Go.Proofs.YtodjaabcjojlkaaDoor
