/-
  Several texts in one: ScoR1,ScoFm,ScoS1,ScoS2,ScoTx,ScoKd.
-/
import Derived.Test.YtehgmmbdlnginaaGreatDoorQScoGd
import Derived.Test.YtehgmmbdlnginaaGreatDoorQScoDx
import Derived.Deep.RegionHeld3
namespace Go.Proofs.YtehgmmbdlnginaaGreatDoor
namespace SC
open LX RX SX EX
abbrev Su:=List ByteArray × List Rf
def thn {α β:Type} (X:Except Er α) (R:α→Except Er β):Except Er β:=match X with
  | .error a=>.error a
  | .ok x=>R x
theorem thn_thn {α β γ:Type} (X:Except Er α) (R:α→Except Er β) (S:β→Except Er γ):thn (thn X R) S=thn X fun x=>thn (R x) S:=by cases X <;> rfl
def sq (C:Cx) (R:Rws) (p:Sp) (s:Su):Except Er (Su × Nat):=thn (sx C R p s.1 s.2) fun y=>.ok ((y.1,y.2.1),y.2.2)
def runsS (Q:Sp→Su→Except Er (Su × Nat)):List Sp→Su→List Nat→Except Er (Su × List Nat)
  | [],s,l=>.ok (s,l)
  | p::ps,s,l=>thn (Q p s) fun y=>runsS Q ps y.1 (l++[y.2])
def onQ (C:Cx) (y:Sn × List ByteArray) (row:List Rf):Except Er (Su × Nat):=match y.1 with
  | .bad a e=>.error (a,e,y.2)
  | .mk f R ps=>thn (runsS (sq C R) ps (y.2,row) []) fun z=>.ok ((z.1.1,z.1.2++[{ f with l:=z.2 }]),z.1.2.length)
theorem runs_execs (C:Cx) (R:Rws):∀ (ps:List Sp) (N:List ByteArray) (row:List Rf) (l:List Nat),runsS (sq C R) ps (N,row) l=thn (execs (sx C R) ps N row l) fun y=>.ok ((y.1,y.2.1),y.2.2):=by
  intro ps;induction ps with
  | nil=>intro N row l;rfl
  | cons p ps ih =>
    intro N row l;rw [execs_cons];unfold runsS sq;cases sx C R p N row with
    | error e=>rfl
    | ok y=>obtain ⟨N',row',i⟩:=y;exact ih N' row' (l++[i])
theorem sq_eq {C:Cx} (h:Fw C) (R:Rws) (p:Sp) (s:Su):sq C R p s=onQ C (evS C R s.1 p) s.2:=by
  unfold sq;rw [sx_eq h];generalize evS C R s.1 p=y;obtain ⟨pl,N1⟩:=y;cases pl with
  | bad a e=>rfl
  | mk f R1 ps =>
    simp only [onS,onQ,runs_execs]
    cases execs (sx C R1) ps N1 s.2 [] with
    | error e=>rfl
    | ok y=>rfl
theorem tops_runs (C:Cx):∀ (ts:List Nat) (N:List ByteArray) (row:List Rf) (t:List Nat),tops C ts N row t=thn (runsS (sq C []) (ts.map .form) (N,row) t) fun y=>.ok (y.1.1,y.1.2,y.2):=by
  intro ts;induction ts with
  | nil=>intro N row t;rfl
  | cons i ts ih =>
    intro N row t;rw [tops,List.map_cons];unfold runsS sq;cases sx C [] (.form i) N row with
    | error e=>rfl
    | ok y=>obtain ⟨N',row',k⟩:=y;exact ih N' row' (t++[k])
def fstS (Y:Except Er (Su × Nat)):Except Er Su:=thn Y fun y=>.ok y.1
def fstsS (Y:Except Er (Su × List Nat)):Except Er Su:=thn Y fun y=>.ok y.1
theorem runsS_cons (Q:Sp→Su→Except Er (Su × Nat)) (p:Sp) (ps:List Sp) (s:Su) (l:List Nat):runsS Q (p::ps) s l=thn (Q p s) fun y=>runsS Q ps y.1 (l++[y.2]):=rfl
theorem runsS_app (Q:Sp→Su→Except Er (Su × Nat)) (qs:List Sp):∀ (ps:List Sp) (s:Su) (l:List Nat),runsS Q (ps++qs) s l=thn (runsS Q ps s l) fun y=>runsS Q qs y.1 y.2:=by
  intro ps;induction ps with
  | nil=>intro s l;rfl
  | cons p ps ih =>
    intro s l;rw [List.cons_append,runsS_cons,runsS_cons];cases Q p s with
    | error a=>rfl
    | ok y=>obtain ⟨s1,k⟩:=y;exact ih s1 _
theorem runsS_one (Q:Sp→Su→Except Er (Su × Nat)) (p:Sp) (s:Su) (l:List Nat):runsS Q [p] s l=thn (Q p s) fun y=>.ok (y.1,l++[y.2]):=by
  unfold runsS;cases Q p s with
  | error a=>rfl
  | ok y=>obtain ⟨s1,k⟩:=y;rfl
theorem fstsS_next (Y:Except Er (Su × List Nat)) (R:Su→Except Er (Su × Nat)):fstsS (thn Y fun y=>thn (R y.1) fun z=>.ok (z.1,y.2++[z.2]))=fstS (thn (fstsS Y) R):=by
  cases Y with
  | error a=>rfl
  | ok y =>
    show fstsS (thn (R y.1) _)=fstS (R y.1)
    cases R y.1 <;> rfl
theorem collectS (Y:Except Er (Su × List Nat)) (f:Rf) (ks:List Nat) (h:∀ s k,Y = .ok (s,k)→k=ks):thn (fstsS Y) (fun s=>.ok ((s.1,s.2++[{ f with l:=ks }]),s.2.length))=thn Y fun z=>.ok ((z.1.1,z.1.2++[{ f with l:=z.2 }]),z.1.2.length):=by
  cases Y with
  | error a=>rfl
  | ok y =>
    obtain ⟨s,k⟩:=y;have:=h s k rfl;subst this;rfl
theorem runsS_take {Q:Sp→Su→Except Er (Su × Nat)} {l:List Nat} {j:Nat} (h:j < l.length) (X:Except Er Su) :
    (thn X fun s=>runsS Q ((l.take (j+1)).map .form) s [])=thn (thn X fun s=>runsS Q ((l.take j).map .form) s []) fun y=>thn (Q (.form l[j]) y.1) fun z=>.ok (z.1,y.2++[z.2]):=by
  rw [thn_thn];congr 1
  funext st
  rw [List.take_succ_eq_append_getElem h,List.map_append,runsS_app];congr 1 <;> (funext y;exact runsS_one Q _ _ _)
def sumF (C:Cx) (l:List Nat):Nat:=(l.map (F C)).sum
theorem sumF_take {C:Cx} {l:List Nat} {j:Nat} (h:j < l.length):sumF C (l.take (j+1))=sumF C (l.take j)+F C l[j]:=by
  unfold sumF;rw [List.take_succ_eq_append_getElem h,List.map_append,List.sum_append];simp
theorem sumF_le {C:Cx} (l:List Nat) (j:Nat):sumF C (l.take j)≤sumF C l:=by
  unfold sumF;conv=>rhs;rw [← List.take_append_drop j l]
  rw [List.map_append,List.sum_append];omega
theorem F_kid {C:Cx} (h:Fw C) {i p:Nat} (hp:p∈(fmAt C.fs i).l):F C p+1≤F C i:=by
  rw [F_eq h i];have:F C p≤((fmAt C.fs i).l.map (F C)).sum:=by
    generalize (fmAt C.fs i).l=l at hp;induction l with
    | nil=>cases hp
    | cons a l ih =>
      rw [List.map_cons,List.sum_cons]
      rcases List.mem_cons.1 hp with rfl | hp
      · omega
      · have:=ih hp;omega
  omega
def quoted:Sp→Prop
  | .form _=>False
  | _=>True
theorem quoted_ev {C:Cx} {R:Rws} {N:List ByteArray} {p:Sp} (h:quoted p):∃ f ps N',evS C R N p=(.mk f R ps,N')∧∀ q∈ps,quoted q:=by
  have hql:∀ a l,∃ f ps,quoL R a l = .mk f R ps∧∀ q∈ps,quoted q:=fun a l=>by
    cases l with
    | nil=>exact ⟨_,_,rfl,fun q hq=>by cases hq⟩
    | cons i l=>exact ⟨_,_,rfl,fun q hq=>by
        simp only [List.mem_cons,List.not_mem_nil,or_false] at hq
        rcases hq with rfl | rfl <;> trivial⟩
  cases p with
  | form i=>cases h
  | ql a l =>
    obtain ⟨f,ps,e,hp⟩:=hql a l;exact ⟨f,ps,N,by simp only [evS,e],hp⟩
  | qd a i =>
    simp only [evS,quo]
    split
    · exact ⟨_,_,_,rfl,fun q hq=>by cases hq⟩
    split
    · exact ⟨_,_,_,rfl,fun q hq=>by cases hq⟩
    split
    · exact ⟨_,_,_,rfl,fun q hq=>by cases hq⟩
    · obtain ⟨f,ps,e,hp⟩:=hql a (ndAt C.ns i).l;exact ⟨f,ps,N,by rw [e],hp⟩
theorem quoted_sq {C:Cx} (h:Fw C):∀ (n:Nat) (p:Sp),wgt C p≤n→quoted p→∀ R s,∃ y,sq C R p s = .ok y:=by
  intro n;induction n with
  | zero=>intro p hp;have:=wgt_pos C p;omega
  | succ n ih =>
    intro p hp hq R s;have hw:=ev_wg h R s.1 p;obtain ⟨f,ps,N',e,hqs⟩:=quoted_ev (C:=C) (R:=R) (N:=s.1) hq;rw [sq_eq h,e];rw [e] at hw;simp only [wgn] at hw
    have hps:∀ (ps:List Sp),wgts C ps≤n→(∀ q∈ps,quoted q)→∀ s l,∃ y,runsS (sq C R) ps s l = .ok y:=by
      intro ps;induction ps with
      | nil=>intro _ _ s l;exact ⟨_,rfl⟩
      | cons q ps ihp =>
        intro h1 h2 s l;rw [wgts_cons] at h1;obtain ⟨y,hy⟩:=ih q (by omega) (h2 q (List.mem_cons_self ..)) R s;rw [runsS_cons,hy];exact ihp (by omega) (fun q hq=>h2 q (List.mem_cons_of_mem _ hq)) _ _
    obtain ⟨y,hy⟩:=hps ps (by omega) hqs (N',s.2) [];simp only [onQ,hy]
    exact ⟨_,rfl⟩
end SC
end Go.Proofs.YtehgmmbdlnginaaGreatDoor
namespace Go.Proofs.YtehgmmbdlnginaaGreatDoor
namespace SC
open LX RX SX EX
inductive Parts (Q:Sp→Su→Su→Nat→Prop):List Sp→Su→Su→List Nat→Prop
  | nil (s:Su):Parts Q [] s s []
  | cons {p:Sp} {ps:List Sp} {s s1 s2:Su} {i:Nat} {l:List Nat}:Q p s s1 i→Parts Q ps s1 s2 l→Parts Q (p::ps) s s2 (i::l)
theorem Parts.len {Q:Sp→Su→Su→Nat→Prop} {ps:List Sp} {s s':Su} {l:List Nat} (h:Parts Q ps s s' l):l.length=ps.length:=by
  induction h with
  | nil s=>rfl
  | cons _ _ ih=>simp [ih]
theorem runs_parts {K:List ByteArray} {Q:Sp→Su→Su→Nat→Prop} {F:Sp→Su→Except Er (Su × Nat)}:∀ (ps:List Sp),(∀ p∈ps,∀ s s' i,Nk K s.1→F p s = .ok (s',i)→Q p s s' i∧Nk K s'.1)→∀ (s s':Su) (l0 l:List Nat),Nk K s.1→runsS F ps s l0 = .ok (s',l) →
    ∃ l1,l=l0++l1∧Parts Q ps s s' l1∧Nk K s'.1:=by
  intro ps;induction ps with
  | nil =>
    intro _ s s' l0 l hN h;injection h with h;injection h with h1 h2;subst h1 h2;exact ⟨[],by simp,.nil s,hN⟩
  | cons p ps ih =>
    intro hF s s' l0 l hN h;rw [runsS_cons] at h;cases hp:F p s with
    | error e=>rw [hp] at h;cases h
    | ok y =>
      obtain ⟨s1,i⟩:=y;rw [hp] at h;obtain ⟨h1,h2⟩:=hF p (List.mem_cons_self ..) s s1 i hN hp;obtain ⟨l1,e,h3,h4⟩:=ih (fun q hq=>hF q (List.mem_cons_of_mem _ hq)) s1 s' (l0++[i]) l h2 h;exact ⟨i::l1,by rw [e];simp,.cons h1 h3,h4⟩
theorem sq_ind {K:List ByteArray} {C:Cx} (h:Gd C K) {P:Rws→Sp→Su→Su→Nat→Prop}
    (step:∀ R p (s:Su) f R' ps N' (s':Su) l,Nk K s.1→ThS C p→evS C R s.1 p=(.mk f R' ps,N')→Nk K N'→Parts (P R') ps (N',s.2) s' l→P R p s (s'.1,s'.2++[{ f with l:=l }]) s'.2.length) :
    ∀ (m:Nat) (p:Sp),wgt C p≤m→ThS C p→∀ R (s s':Su) i,Nk K s.1→sq C R p s = .ok (s',i)→P R p s s' i∧Nk K s'.1:=by
  intro m;induction m with
  | zero=>intro p hp;have:=wgt_pos C p;omega
  | succ m ih =>
    intro p hp ht R s s' i hN hs;have hw:=ev_wg h.fw R s.1 p;have hnk:=ev_nk h hN R p ht;have hth:=fun f R' ps N' (e:evS C R s.1 p=(.mk f R' ps,N'))=>ev_th h ht e
    have hst:=fun f R' ps N' (s':Su) l (e:evS C R s.1 p=(.mk f R' ps,N'))=>step R p s f R' ps N' s' l hN ht e
    rw [sq_eq h.fw] at hs;generalize evS C R s.1 p=y at *;obtain ⟨pl,N1⟩:=y;cases pl with
    | bad a e=>cases hs
    | mk f R1 ps =>
      simp only [wgn] at hw
      simp only [onQ] at hs
      cases hr:runsS (sq C R1) ps (N1,s.2) [] with
      | error e=>rw [hr] at hs;cases hs
      | ok z =>
        obtain ⟨s1,l⟩:=z;rw [hr] at hs;injection hs with hs;injection hs with h1 h2;subst h1 h2;obtain ⟨l1,e,h3,h4⟩:=runs_parts (K:=K) (Q:=P R1) ps (fun q hq s s' i hN hs=>ih q (by have:=wgts_mem (C:=C) hq;omega) (hth _ _ _ _ rfl q hq) R1 s s' i hN hs) (N1,s.2) s1 [] l hnk hr;rw [List.nil_append] at e;subst e;exact ⟨hst _ _ _ _ _ _ rfl hnk h3,h4⟩
theorem tops_ind {K:List ByteArray} {C:Cx} (h:Gd C K) {P:Rws→Sp→Su→Su→Nat→Prop}
    (step:∀ R p (s:Su) f R' ps N' (s':Su) l,Nk K s.1→ThS C p→evS C R s.1 p=(.mk f R' ps,N')→Nk K N'→Parts (P R') ps (N',s.2) s' l→P R p s (s'.1,s'.2++[{ f with l:=l }]) s'.2.length) {ts:List Nat} (ht:∀ t∈ts,t < C.fs.length)
    {N:List ByteArray} {row:List Rf} {l:List Nat} (hx:tops C ts [] [] [] = .ok (N,row,l)):Parts (P []) (ts.map .form) ([],[]) (N,row) l∧Nk K N:=by
  rw [tops_runs] at hx;cases hr:runsS (sq C []) (ts.map .form) ([],[]) [] with
  | error e=>rw [hr] at hx;cases hx
  | ok z =>
    obtain ⟨s1,l1⟩:=z;rw [hr] at hx;injection hx with hx;injection hx with h1 hx;injection hx with h2 h3;obtain ⟨l2,e,h4,h5⟩:=runs_parts (K:=K) (Q:=P []) (ts.map .form) (fun q hq s s' i hN hs=>sq_ind h step _ q (Nat.le_refl _) (forms_th ht q hq) [] s s' i hN hs) ([],[]) s1 [] l1 (Nk.nil K) hr;rw [List.nil_append] at e;subst e h3;have:s1=(N,row):=by rw [← h1,← h2]
    rw [this] at h4 h5;exact ⟨h4,h5⟩
def InR (R:Rws) (a n:Int):Prop:=∃ (k j:Nat) (r:List ByteArray),a=k∧n=j∧R[k]? = some r∧j < r.length
structure Shp (N':List ByteArray) (R:Rws) (f:Rf) (R':Rws) (m:Nat):Prop where
  l:f.l=[]
  at0:0≤f.at_
  r6:f.kind≠6→R'=R
  kinds:(f.kind=13∧m=0∧(f.n=0∧f.a=0)∧(f.w=2∨(∃ n,WP.inR n=true∧f.w=WP.intW n)∨(∃ b,f.w=WP.boolW b)∨∃ n,WP.ofB 3 n=true∧f.w=WP.ofW 3 n))∨(f.kind=11∧m=0∧InR R f.a f.n)∨(f.kind=4∧m=0∧0≤f.n∧f.n < N'.length) ∨
    (f.kind=6∧m=1∧∃ r,R'=r::R∧f.n=r.length∧r.length≤100)∨(f.kind=7∧m=1∧(InR R f.a f.n∨f.a = -1∧0≤f.n∧f.n < N'.length))∨(f.kind=9∧m=1∧0≤f.n∧f.n < N'.length) ∨
    (f.kind=12∧1≤f.n∧f.n≤30∧m=primM.getD (f.n.toNat - 1) 0)∨(f.kind=10∧1≤m)∨(f.kind=5∧m=3)∨(f.kind=8∧2≤m)
theorem wher_in:∀ {R:Rws} {s:ByteArray} {a n:Nat},wher R s=some (a,n)→InR R a n:=by
  intro R;induction R with
  | nil=>intro s a n h;cases h
  | cons r R ih =>
    intro s a n h;unfold wher at h;split at h
    · rename_i hm;injection h with h;injection h with h1 h2;subst h1 h2;exact ⟨0,_,r,rfl,rfl,rfl,List.idxOf_lt_length_iff.2 hm⟩
    · cases hw:wher R s with
      | none=>rw [hw] at h;cases h
      | some x =>
        obtain ⟨a1,n1⟩:=x;rw [hw] at h;injection h with h;injection h with h1 h2;subst h1 h2;obtain ⟨k,j,r1,e1,e2,e3,e4⟩:=ih hw;exact ⟨k+1,j,r1,by omega,e2,e3,e4⟩
theorem putI_lt {K N:List ByteArray} (h:Nk K N) (hK:K.length≤4096) {s:ByteArray} (hs:PK K s):NP.putI N s < (NP.putL N s).length:=by
  obtain ⟨h1,h2⟩:=hs;have hroom:s∉N→N.length < 4096:=fun hn=>by
    have:=sub_len (s::N) K (List.nodup_cons.2 ⟨hn,h.ok.nd⟩) (fun x hx=>(List.mem_cons.1 hx).elim (fun e=>e ▸ h2) (h.sub x));rw [List.length_cons] at this;omega
  unfold NP.putI NP.putL;rw [if_neg (fun c=>c h1)];by_cases hm:s∈N
  · rw [if_pos hm,if_neg (fun c=>c.2.1 hm)];have:=List.idxOf_lt_length_iff.2 hm;omega
  · rw [if_neg hm,if_pos (hroom hm),if_pos ⟨h1,hm,hroom hm⟩,List.length_append,List.length_singleton];omega
theorem quoL_shp {N':List ByteArray} {R R':Rws} {a:Int} {l:List Nat} {f:Rf} {ps:List Sp} (ha:0≤a) (e:quoL R a l = .mk f R' ps):Shp N' R f R' ps.length:=by
  cases l with
  | nil =>
    simp only [quoL,Sn.mk.injEq] at e
    obtain ⟨rfl,rfl,rfl⟩:=e;exact ⟨rfl,ha,fun _=>rfl,.inl ⟨rfl,rfl,⟨rfl,rfl⟩,.inl rfl⟩⟩
  | cons i l =>
    simp only [quoL,Sn.mk.injEq] at e
    obtain ⟨rfl,rfl,rfl⟩:=e;exact ⟨rfl,ha,fun _=>rfl,.inr (.inr (.inr (.inr (.inr (.inr (.inl ⟨rfl,by show (1:Int)≤12;omega,by show (12:Int)≤30;omega,rfl⟩))))))⟩
theorem quo_shp {K N N':List ByteArray} {C:Cx} (h:Gd C K) (hN:Nk K N) {R R':Rws} {a:Int} {i:Nat} {f:Rf} {ps:List Sp} (ha:0≤a) (e:quo C.ns R N a i=(.mk f R' ps,N')):Shp N' R f R' ps.length:=by
  unfold quo at e;split at e
  · rename_i h1;simp only [Prod.mk.injEq,Sn.mk.injEq] at e
    obtain ⟨⟨rfl,rfl,rfl⟩,rfl⟩:=e;exact ⟨rfl,ha,fun _=>rfl,.inl ⟨rfl,rfl,⟨rfl,rfl⟩,.inr (.inl ⟨_,h.datI i h1,rfl⟩)⟩⟩
  split at e
  · simp only [Prod.mk.injEq,Sn.mk.injEq] at e
    obtain ⟨⟨rfl,rfl,rfl⟩,rfl⟩:=e;exact ⟨rfl,ha,fun _=>rfl,.inl ⟨rfl,rfl,⟨rfl,rfl⟩,.inr (.inr (.inl ⟨_,rfl⟩))⟩⟩
  split at e
  · rename_i h3;simp only [Prod.mk.injEq,Sn.mk.injEq] at e
    obtain ⟨⟨rfl,rfl,rfl⟩,rfl⟩:=e;obtain ⟨_,_,p0,p1,_⟩:=hN.put h.few (h.datN i h3);exact ⟨rfl,ha,fun _=>rfl,.inl ⟨rfl,rfl,⟨rfl,rfl⟩,.inr (.inr (.inr ⟨_,ofB_num p0 p1,rfl⟩))⟩⟩
  · simp only [Prod.mk.injEq] at e
    exact quoL_shp ha e.1
theorem prim_of {s:ByteArray} (h:isPrim s=true):1≤primO s∧primO s≤30∧primK s=primM.getD (primO s - 1) 0:=by
  have hm:s∈primN:=of_decide_eq_true h;have hl:=List.idxOf_lt_length_iff.2 hm;have h30:primN.length=30:=rfl;unfold primO primK;rw [if_pos hm,if_pos hm];exact ⟨by omega,by omega,by simp⟩
theorem ev_shp {K N N':List ByteArray} {C:Cx} (h:Gd C K) (hN:Nk K N) {R R':Rws} {p:Sp} {f:Rf} {ps:List Sp} (hp:ThS C p) (e:evS C R N p=(.mk f R' ps,N')):Shp N' R f R' ps.length:=by
  cases p with
  | qd a i=>exact quo_shp h hN hp.1 e
  | ql a l =>
    simp only [evS,Prod.mk.injEq] at e
    exact quoL_shp hp.1 e.1
  | form i =>
    have hi:i < C.fs.length:=hp;have hform:=h.form i hi;have hat:=h.at_ i hi;have hnm:=h.nm i hi;have hown:=fun s (hs:s∈C.own)=>h.ownP hs
    simp only [evS] at e
    generalize fmAt C.fs i=g at *;have hk:=hform.kind;have fin:∀ {x:Rf} {R1:Rws} {qs:List Sp} {M:List ByteArray},((.mk x R1 qs,M):Sn × List ByteArray)=(.mk f R' ps,N')→Shp M R x R1 qs.length→Shp N' R f R' ps.length:=by
      intro x R1 qs M e h;simp only [Prod.mk.injEq,Sn.mk.injEq] at e
      obtain ⟨⟨rfl,rfl,rfl⟩,rfl⟩:=e;exact h
    have hml:(g.l.map Sp.form).length=g.l.length:=List.length_map ..;unfold evF at e;split at e
    · rename_i h1;exact fin e ⟨rfl,hat,fun _=>rfl,.inl ⟨rfl,rfl,⟨rfl,rfl⟩,.inr (.inl ⟨_,hnm.1 h1,rfl⟩)⟩⟩
    split at e
    · exact fin e ⟨rfl,hat,fun _=>rfl,.inl ⟨rfl,rfl,⟨rfl,rfl⟩,.inr (.inr (.inl ⟨_,rfl⟩))⟩⟩
    split at e
    · exact quo_shp h hN hat e
    split at e
    · unfold nameP at e;split at e
      · rename_i a n hw;exact fin e ⟨rfl,hat,fun _=>rfl,.inr (.inl ⟨rfl,rfl,wher_in hw⟩)⟩
      · split at e
        · rename_i ho;obtain ⟨_,_,p0,p1,_⟩:=hN.put h.few (hown _ ho);exact fin e ⟨rfl,hat,fun _=>rfl,.inr (.inr (.inl ⟨rfl,rfl,p0,putI_lt hN h.few (hown _ ho)⟩))⟩
        · cases e
    split at e
    · rename_i h6;have h1:g.l.length=1:=by rcases hk with ⟨h,_⟩ | ⟨h,_⟩ | ⟨_,h⟩ | ⟨h,_⟩ | ⟨h,_⟩ <;> first | exact h | omega
      exact fin e ⟨rfl,hat,fun h=>absurd rfl h,.inr (.inr (.inr (.inl ⟨rfl,by rw [hml,h1],g.p,rfl,rfl,hform.names.few⟩)))⟩
    split at e
    · rename_i h7;have h1:g.l.length=1:=by rcases hk with ⟨h,_⟩ | ⟨h,_⟩ | ⟨_,h⟩ | ⟨h,_⟩ | ⟨h,_⟩ <;> first | exact h | omega
      unfold setP' at e;split at e
      · rename_i a n hw;exact fin e ⟨rfl,hat,fun _=>rfl,.inr (.inr (.inr (.inr (.inl ⟨rfl,by rw [hml,h1],.inl (wher_in hw)⟩))))⟩
      · split at e
        · rename_i ho;obtain ⟨_,_,p0,p1,_⟩:=hN.put h.few (hown _ ho);exact fin e ⟨rfl,hat,fun _=>rfl,.inr (.inr (.inr (.inr (.inl ⟨rfl,by rw [hml,h1],.inr ⟨rfl,p0,putI_lt hN h.few (hown _ ho)⟩⟩))))⟩
        · cases e
    split at e
    · rename_i h9;have h1:g.l.length=1:=by rcases hk with ⟨h,_⟩ | ⟨h,_⟩ | ⟨_,h⟩ | ⟨h,_⟩ | ⟨h,_⟩ <;> first | exact h | omega
      unfold defP at e;split at e
      · cases e
      · obtain ⟨_,_,p0,p1,_⟩:=hN.put h.few (hnm.2.2.1 h9);exact fin e ⟨rfl,hat,fun _=>rfl,.inr (.inr (.inr (.inr (.inr (.inl ⟨rfl,by rw [hml,h1],p0,putI_lt hN h.few (hnm.2.2.1 h9)⟩)))))⟩
    split at e
    · rename_i h10;have h1:1≤g.l.length:=by rcases hk with ⟨h,_⟩ | ⟨h,_⟩ | ⟨h,_⟩ | ⟨h,_⟩ | ⟨_,h⟩ <;> first | exact h | omega
      unfold callP at e;split at e
      · rename_i hc;split at e
        · cases e
        · rename_i hlen;have hpr:isPrim (fmAt C.fs (g.l.getD 0 0)).s=true:=by
            unfold callsPrim at hc;simp only [Bool.and_eq_true] at hc
            exact hc.2
          obtain ⟨q1,q2,q3⟩:=prim_of hpr;refine fin e ⟨rfl,hat,fun _=>rfl,.inr (.inr (.inr (.inr (.inr (.inr (.inl ⟨rfl,by simp only;omega,by simp only;omega,?_⟩))))))⟩
          simp only [List.length_map,List.length_drop,Int.toNat_natCast]
          rw [← q3];omega
      · exact fin e ⟨rfl,hat,fun _=>rfl,.inr (.inr (.inr (.inr (.inr (.inr (.inr (.inl ⟨rfl,by rw [hml];exact h1⟩)))))))⟩
    · rename_i n1 n2 n3 n4 n6 n7 n9 n10;refine fin e ⟨rfl,hat,fun _=>rfl,.inr (.inr (.inr (.inr (.inr (.inr (.inr (.inr ?_)))))))⟩
      rw [hml];simp only
      rcases hk with ⟨h,_⟩ | ⟨h,h2⟩ | ⟨h,_⟩ | ⟨h,h2⟩ | ⟨h,_⟩
      · omega
      · exact .inl ⟨h,h2⟩
      · omega
      · exact .inr ⟨h,h2⟩
      · omega
end SC
end Go.Proofs.YtehgmmbdlnginaaGreatDoor
namespace Go.Proofs.YtehgmmbdlnginaaGreatDoor
open Go.RowKit
set_option linter.unusedVariables false
namespace SM
open LX RW6 EX SC
open EW (Sl Bx ptr num strs)
def tkU (n:Nat) (u:List Nat):List Bool:=(List.range n).map fun a=>decide (a∈u)
theorem tkU_len (n:Nat) (u:List Nat):(tkU n u).length=n:=by simp [tkU]
theorem tkU_at (n:Nat) (u:List Nat) {i:Nat} (h:i < n):(tkU n u)[i]? = some (decide (i∈u)):=by simp [tkU,h]
theorem tkU_set (n:Nat) (u:List Nat) {i:Nat} (h:i < n):(tkU n u).set i true=tkU n (u++[i]):=by
  apply List.ext_getElem?
  intro j;by_cases hj:j < n
  · rw [tkU_at n _ hj,List.getElem?_set];by_cases e:i=j
    · subst e;rw [if_pos rfl,if_pos (by rw [tkU_len];exact h)];simp
    · rw [if_neg e,tkU_at n u hj];have:(decide (j∈u++[i]))=decide (j∈u):=by
        apply decide_eq_decide.2
        simp only [List.mem_append,List.mem_singleton]
        exact ⟨fun h=>h.elim id (fun h=>absurd h.symm e),.inl⟩
      rw [this]
  · rw [List.getElem?_eq_none (by simp [tkU_len];omega),List.getElem?_eq_none (by simp [tkU_len];omega)]
theorem tkU_nil (n:Nat):bools (tkU n [])=List.replicate n (.bool false):=by
  apply List.ext_getElem?
  intro j;by_cases hj:j < n
  · simp [bools,tkU,hj]
  · simp [bools,tkU,hj]
def lst (k:Int):Int:=if k=5 then 3 else if k=6∨k=7∨k=9∨k=10 then 1 else 0
def RdC (w:World) (Z:List Nat) (A:Option Addr) (vs:List Value):Prop:=∀ k u,vs[k]? = some u→∃ g o,A=some ⟨g,o,none⟩∧g∉Z∧g < w.heap.size∧w.cell? ⟨g,o+k,none⟩=some u
theorem RdC.far {w w':World} {Z S:List Nat} {A:Option Addr} {vs:List Value} (h:RdC w Z A vs) (f:MM.Far S w w') (hS:∀ b∈S,b < w.heap.size→b∈Z):RdC w' Z A vs:=fun k u hu=>by
  obtain ⟨g,o,e,hz,hg,c⟩:=h k u hu;exact ⟨g,o,e,hz,Nat.lt_of_lt_of_le hg f.size,(f.cell (p:=⟨g,o+k,none⟩) hg (fun hm=>hz (hS g hm hg))).trans c⟩
theorem RdC.more {w:World} {Z Z':List Nat} {A:Option Addr} {vs:List Value} (h:RdC w Z A vs) (hZ:∀ b∈Z',b∈Z∨w.heap.size≤b):RdC w Z' A vs:=fun k u hu=>by
  obtain ⟨g,o,e,hz,hg,c⟩:=h k u hu;exact ⟨g,o,e,fun hm=>(hZ g hm).elim hz (fun h=>by omega),hg,c⟩
theorem rd_sl {w:World} {Z:List Nat} {A:Option Addr} {n c:Nat} {vs:List Value} (h:Sl w Z (.slice A n c) vs):RdC w Z A vs:=by
  obtain ⟨A',c',e,_,_,h3⟩:=h;injection e with e1 _ _;subst e1;exact h3
theorem rd_int {w:World} {A:Option Addr} {l:List Nat} (h:IntRow w A l):RdC w [] A (ints l):=fun k u hu=>by
  have hk:k < l.length:=by
    have:=(List.getElem?_eq_some_iff.1 hu).1
    rwa [EW.ints_len] at this
  obtain ⟨b,o,e,hb,c⟩:=h k hk;have e2:(ints l)[k]? = some (.int .i64 ((l[k]:Nat):Int)):=by simp [ints,List.getElem?_eq_getElem hk]
  rw [e2] at hu;injection hu with hu;subst hu;exact ⟨b,o,e,by simp,hb,c⟩
end SM
end Go.Proofs.YtehgmmbdlnginaaGreatDoor
namespace Go.Proofs.YtehgmmbdlnginaaGreatDoor
open Go.RowKit
set_option linter.unusedVariables false
namespace SM
open LX RW6 EX SC
open EW (Sl Bx ptr num strs)
structure Fms (fs:List Fm) (ts:List Nat) (D:Nat):Prop where
  good:∀ (k:Nat) (h:k < fs.length),GoodK fs[k].kind fs[k].l.length
  lt:∀ (k:Nat) (h:k < fs.length),∀ p∈fs[k].l,p < k
  quo:∀ (k:Nat) (h:k < fs.length),fs[k].kind=3→0≤fs[k].n∧fs[k].n < (D:Int)
  nd:(fs.flatMap (·.l)++ts).Nodup
  tlt:∀ t∈ts,t < fs.length
theorem goodK_kind {k:Int} {n:Nat} (h:GoodK k n):(k=1∨k=2∨k=3∨k=4∨k=5∨k=6∨k=7∨k=8∨k=9∨k=10)∧lst k≤n∧0≤lst k:=by
  unfold GoodK at h;unfold lst;split
  · omega
  · split <;> omega
theorem flat_take (fs:List Fm) (k:Nat) (h:k < fs.length):(fs.take (k+1)).flatMap (·.l)=(fs.take k).flatMap (·.l)++fs[k].l:=by
  rw [List.take_succ_eq_append_getElem h,List.flatMap_append];simp
theorem nd_front {fs:List Fm} {ts:List Nat} (h:(fs.flatMap (·.l)++ts).Nodup) (k:Nat) (hk:k < fs.length):((fs.take k).flatMap (·.l)++fs[k].l).Nodup:=by
  rw [← flat_take fs k hk];have h1:=(List.nodup_append.1 h).1;have e:fs.flatMap (·.l)=(fs.take (k+1)).flatMap (·.l)++(fs.drop (k+1)).flatMap (·.l):=by rw [← List.flatMap_append,List.take_append_drop]
  rw [e] at h1;exact (List.nodup_append.1 h1).1
theorem bool_row (n:Nat):(madeCells #[.bool false] n)=(bools (tkU n [])).toArray:=by
  rw [tkU_nil];apply Array.ext
  · simp [size_madeCells]
  · intro i h1 h2;simp [madeCells,Nat.mod_one]
end SM
end Go.Proofs.YtehgmmbdlnginaaGreatDoor
namespace Go.Proofs.YtehgmmbdlnginaaGreatDoor
namespace SC
open LX RX SX EX
theorem fms_of {s:ByteArray} {r:Rd} {fs:List Fm} {ts:List Nat} (hR:read s = .ok r) (h:expand r.row r.tops = .ok (fs,ts)):SM.Fms fs ts r.row.length:=by
  have hF:=forms_of hR h;refine ⟨fun k hk=>(hF.made k hk).1.kind,fun k hk p hp=>by have:=((hF.made k hk).2 p hp).1;simpa using this,fun k hk h3=>hF.quo _ (List.getElem_mem hk) h3,?_,fun t ht=>?_⟩
  · have hperm:(fs.flatMap (·.l)++ts).Perm (List.range fs.length):=by
      rw [List.perm_iff_count];intro a;have h1:=hF.one a;rw [List.count_append];unfold EX.cnt at h1;rw [h1,List.nodup_range.count];simp
    exact hperm.nodup_iff.2 List.nodup_range
  · have h1:=hF.one t;have h2:=List.count_pos_iff.2 ht;by_cases hl:t < fs.length
    · exact hl
    · rw [if_neg hl] at h1;omega
theorem nodup_le3:∀ (n:Nat) (l:List Nat),l.Nodup→(∀ a∈l,a < n)→l.length≤n:=by
  intro n;induction n with
  | zero=>intro l _ h;cases l with
    | nil=>exact Nat.le_refl _
    | cons a l=>have:=h a (List.mem_cons_self ..);omega
  | succ n ih =>
    intro l hn h;have h1:=ih (l.erase n) (hn.erase n) (fun a ha=>by
      have h2:=(hn.mem_erase_iff).1 ha;have:=h a h2.2;have:=h2.1;omega)
    by_cases hm:n∈l
    · rw [List.length_erase_of_mem hm] at h1;omega
    · rw [List.erase_of_not_mem hm] at h1;omega
theorem fms_small {fs:List Fm} {ts:List Nat} {D:Nat} (G:SM.Fms fs ts D):∀ x∈fs,x.l.length≤fs.length:=by
  intro x hx;obtain ⟨k,hk,rfl⟩:=List.getElem_of_mem hx;have h1:=(List.nodup_append.1 (SM.nd_front G.nd k hk)).2.1;exact Nat.le_trans (nodup_le3 k _ h1 (G.lt k hk)) (by omega)
theorem fms_nil (D:Nat):SM.Fms [] [] D:=⟨fun k hk=>absurd hk (by simp),fun k hk=>absurd hk (by simp),fun k hk=>absurd hk (by simp),by simp,fun t ht=>by cases ht⟩
theorem fm_nil (i:Nat):fmAt [] i=fm0:=by simp [fmAt]
theorem gd_nil {s:ByteArray} {r:Rd} (hR:read s = .ok r) (hs:s.size≤1000):Gd (cx r.row []) (r.row.map (·.s)):=by
  have hok:=read_ok_data hR;have hN:=read_names hR;have h3:∀ i,(ndAt r.row i).kind=3→PK (r.row.map (·.s)) (ndAt r.row i).s:=fun i hk=>by
    by_cases hi:i < r.row.length
    · rw [nd_in hi] at hk ⊢;exact ⟨(hN _ (List.getElem_mem hi)).1 hk,List.mem_map.2 ⟨_,List.getElem_mem hi,rfl⟩⟩
    · rw [nd_out hi] at hk;exact absurd hk (by decide)
  have h1:∀ i,(ndAt r.row i).kind=1→inRP (ndAt r.row i).n:=fun i hk=>by
    by_cases hi:i < r.row.length
    · rw [nd_in hi] at hk ⊢;exact (hN _ (List.getElem_mem hi)).2.1 hk
    · rw [nd_out hi] at hk;exact absurd hk (by decide)
  refine ⟨⟨hok,fun i p hp=>?_⟩,fun i hi=>absurd hi (by simp [cx]),fun i hi=>absurd hi (by simp [cx]),fun i hi=>absurd hi (by simp [cx]),fun i hk=>?_,h1,h3,?_,rfl⟩
  · rw [show fmAt (cx r.row []).fs i=fm0 from fm_nil i] at hp;cases hp
  · rw [show fmAt (cx r.row []).fs i=fm0 from fm_nil i] at hk;exact absurd hk (by decide)
  · rw [List.length_map];have:=read_len hR;omega
theorem gd_none:Gd (cx [] []) []:=by
  have hnd:∀ i,ndAt [] i=ndAt [] 0:=fun i=>by simp [ndAt]
  refine ⟨⟨⟨(fun x hx=>absurd hx (by simp [cx])),(fun x hx=>absurd hx (by simp [cx])),(fun i hi=>absurd hi (by simp [cx])),(fun i hi=>absurd hi (by simp [cx])),(fun i hi=>absurd hi (by simp [cx]))⟩,fun i p hp=>?_⟩,fun i hi=>absurd hi (by simp [cx]),fun i hi=>absurd hi (by simp [cx]),fun i hi=>absurd hi (by simp [cx]),fun i hk=>?_,fun i hk=>?_,fun i hk=>?_,by simp,rfl⟩
  · rw [show fmAt (cx [] []).fs i=fm0 from fm_nil i] at hp;cases hp
  · rw [show fmAt (cx [] []).fs i=fm0 from fm_nil i] at hk;exact absurd hk (by decide)
  · rw [show ndAt (cx [] []).ns i=ndAt [] 0 from hnd i] at hk;exact absurd hk (by decide)
  · rw [show ndAt (cx [] []).ns i=ndAt [] 0 from hnd i] at hk;exact absurd hk (by decide)
def ofS (s:ByteArray):Except Er (List ByteArray × List Rf × List Nat):=match RX.read s with
  | .error _=>.ok ([],[],[])
  | .ok r=>match EX.expand r.row r.tops with
    | .error _=>.ok ([],[],[])
    | .ok x=>scope r.row x.1 x.2
end SC
end Go.Proofs.YtehgmmbdlnginaaGreatDoor
namespace Go.Proofs.YtehgmmbdlnginaaGreatDoor
namespace SC
open LX RX SX EX
def rf0:Rf:=⟨0,0,0,0,emp,0,[]⟩
def rfAt (row:List Rf) (i:Nat):Rf:=row.getD i rf0
theorem rf_at {row:List Rf} {i:Nat} (h:i < row.length):rfAt row i=row[i]:=by
  unfold rfAt;rw [List.getD_eq_getElem?_getD,List.getElem?_eq_getElem h];rfl
theorem rf_app {row:List Rf} {i:Nat} (h:i < row.length) (ext:List Rf):rfAt (row++ext) i=rfAt row i:=by
  unfold rfAt;rw [List.getD_eq_getElem?_getD,List.getD_eq_getElem?_getD,List.getElem?_append_left h]
theorem rf_end (row:List Rf) (f:Rf) (ext:List Rf):rfAt (row++[f]++ext) row.length=f:=by
  rw [rf_app (by simp),rf_at (by simp)];simp
structure Ck (nl:Nat) (L:List Nat) (f:Rf):Prop where
  k:f.kind≠1∧f.kind≠2∧f.kind≠3
  l:f.kind=11∨f.kind=7→(∃ (k m:Nat),f.a=k∧L[k]? = some m∧0≤f.n∧f.n < m)∨f.a < 0∧f.kind=7
  fn:f.kind=6→0≤f.n∧f.n≤100
  p:f.kind=12→1≤f.n∧f.n < 31
  n:f.kind=4∨f.kind=9∨f.kind=7∧f.a < 0→0≤f.n∧f.n < nl
def good (row:List Rf) (nl:Nat):Nat→List Nat→Nat→Prop
  | 0,_,_=>False
  | f+1,L,i=>i < row.length∧Ck nl L (rfAt row i)∧∀ p∈(rfAt row i).l,p < i∧good row nl f (if (rfAt row i).kind=6 then (rfAt row i).n.toNat::L else L) p
def sz (row:List Rf):Nat→Nat→Nat
  | 0,_=>1
  | f+1,i=>1+((rfAt row i).l.map (sz row f)).sum
structure Dn (R:Rws) (s s':Su) (i:Nat):Prop where
  pre:∃ new,s'.2=s.2++new
  names:s.1.length≤s'.1.length
  lt:i < s'.2.length
  good:∀ ext nl f,s'.1.length≤nl→i < f→good (s'.2++ext) nl f (R.map List.length) i
  sz:∀ ext f,i < f→s.2.length+sz (s'.2++ext) f i=s'.2.length
theorem putL_len (N:List ByteArray) (s:ByteArray):N.length≤(NP.putL N s).length:=by
  unfold NP.putL;split
  · simp
  · exact Nat.le_refl _
theorem ev_names {C:Cx} {R:Rws} {N:List ByteArray} {p:Sp} {sn:Sn} {N':List ByteArray} (e:evS C R N p=(sn,N')):N.length≤N'.length:=by
  have hq:∀ a i,quo C.ns R N a i=(sn,N')→N.length≤N'.length:=fun a i e=>by
    unfold quo at e;split at e
    · injection e with _ e;subst e;exact Nat.le_refl _
    split at e
    · injection e with _ e;subst e;exact Nat.le_refl _
    split at e
    · injection e with _ e;subst e;exact putL_len _ _
    · injection e with _ e;subst e;exact Nat.le_refl _
  cases p with
  | qd a i=>exact hq a i e
  | ql a l=>simp only [evS,Prod.mk.injEq] at e;rw [e.2];exact Nat.le_refl _
  | form i =>
    simp only [evS] at e
    generalize fmAt C.fs i=g at *;unfold evF at e;split at e
    · injection e with _ e;subst e;exact Nat.le_refl _
    split at e
    · injection e with _ e;subst e;exact Nat.le_refl _
    split at e
    · exact hq _ _ e
    split at e
    · unfold nameP at e;split at e
      · injection e with _ e;subst e;exact Nat.le_refl _
      · split at e
        · injection e with _ e;subst e;exact putL_len _ _
        · injection e with _ e;subst e;exact Nat.le_refl _
    split at e
    · injection e with _ e;subst e;exact Nat.le_refl _
    split at e
    · unfold setP' at e;split at e
      · injection e with _ e;subst e;exact Nat.le_refl _
      · split at e
        · injection e with _ e;subst e;exact putL_len _ _
        · injection e with _ e;subst e;exact Nat.le_refl _
    split at e
    · unfold defP at e;split at e
      · injection e with _ e;subst e;exact Nat.le_refl _
      · injection e with _ e;subst e;exact putL_len _ _
    split at e
    · injection e with _ e;subst e;exact Nat.le_refl _
    · injection e with _ e;subst e;exact Nat.le_refl _
structure Dns (R:Rws) (s s':Su) (l:List Nat):Prop where
  pre:∃ new,s'.2=s.2++new
  names:s.1.length≤s'.1.length
  lt:∀ i∈l,i < s'.2.length
  good:∀ ext nl f,s'.1.length≤nl→(∀ i∈l,i < f)→∀ i∈l,good (s'.2++ext) nl f (R.map List.length) i
  sz:∀ ext f,(∀ i∈l,i < f)→s.2.length+(l.map (SC.sz (s'.2++ext) f)).sum=s'.2.length
theorem parts_dn {R:Rws} {ps:List Sp} {s s':Su} {l:List Nat} (h:Parts (fun _=>Dn R) ps s s' l):Dns R s s' l:=by
  induction h with
  | nil s=>exact ⟨⟨[],by simp⟩,Nat.le_refl _,(fun i hi=>by cases hi),(fun _ _ _ _ _ i hi=>by cases hi),fun _ _ _=>by simp⟩
  | @cons p ps s s1 s2 i l h1 h2 ih =>
    obtain ⟨n1,e1⟩:=h1.pre;obtain ⟨n2,e2⟩:=ih.pre;have hlt:s1.2.length≤s2.2.length:=by rw [e2];simp
    refine ⟨⟨n1++n2,by rw [e2,e1];simp⟩,Nat.le_trans h1.names ih.names,fun j hj=>?_,fun ext nl f hn hf j hj=>?_,fun ext f hf=>?_⟩
    · rcases List.mem_cons.1 hj with rfl | hj
      · have:=h1.lt;omega
      · exact ih.lt j hj
    · rcases List.mem_cons.1 hj with rfl | hj
      · have:=h1.good (n2++ext) nl f (Nat.le_trans ih.names hn) (hf j (List.mem_cons_self ..));rw [e2,List.append_assoc];exact this
      · exact ih.good ext nl f hn (fun k hk=>hf k (List.mem_cons_of_mem _ hk)) j hj
    · have a:=h1.sz (n2++ext) f (hf i (List.mem_cons_self ..));have b:=ih.sz ext f (fun k hk=>hf k (List.mem_cons_of_mem _ hk));rw [← List.append_assoc,← e2] at a;rw [List.map_cons,List.sum_cons];omega
theorem ck_of {N':List ByteArray} {R:Rws} {f:Rf} {R':Rws} {m nl:Nat} (h:Shp N' R f R' m) (hn:N'.length≤nl) (l:List Nat):Ck nl (R.map List.length) { f with l:=l }∧R'.map List.length=if f.kind=6 then f.n.toNat::R.map List.length else R.map List.length:=by
  have hin:∀ {a n:Int},InR R a n→∃ (k m:Nat),a=k∧(R.map List.length)[k]? = some m∧0≤n∧n < m:=fun ⟨k,j,r,e1,e2,e3,e4⟩=>⟨k,r.length,e1,by rw [List.getElem?_map,e3];rfl,by omega,by omega⟩
  have h6:=h.r6
  rcases h.kinds with h | h | h | h | h | h | h | h | h | h
  · refine ⟨⟨by simp only;omega,fun e=>?_,fun e=>?_,fun e=>?_,fun e=>?_⟩,?_⟩ <;> first | (simp only at e;omega) | (rw [h6 (by omega),if_neg (by omega)])
  · refine ⟨⟨by simp only;omega,fun e=>.inl (hin h.2.2),fun e=>?_,fun e=>?_,fun e=>?_⟩,?_⟩ <;> first | (simp only at e;omega) | (rw [h6 (by omega),if_neg (by omega)])
  · refine ⟨⟨by simp only;omega,fun e=>?_,fun e=>?_,fun e=>?_,fun e=>by simp only;omega⟩,?_⟩ <;> first | (simp only at e;omega) | (rw [h6 (by omega),if_neg (by omega)])
  · obtain ⟨k,_,r,e1,e2,e3⟩:=h;refine ⟨⟨by simp only;omega,fun e=>?_,fun e=>by simp only;omega,fun e=>?_,fun e=>?_⟩,?_⟩ <;> first | (simp only at e;omega) | (rw [if_pos k,e1,e2];simp)
  · obtain ⟨k,_,hh⟩:=h;refine ⟨⟨by simp only;omega,fun e=>?_,fun e=>?_,fun e=>?_,fun e=>?_⟩,?_⟩
    · rcases hh with hh | hh
      · exact .inl (hin hh)
      · exact .inr ⟨by simp only;omega,k⟩
    · simp only at e;omega
    · simp only at e;omega
    · simp only at e ⊢
      rcases hh with ⟨k2,j,r,e1,e2,e3,e4⟩ | hh
      · omega
      · omega
    · rw [h6 (by omega),if_neg (by omega)]
  · refine ⟨⟨by simp only;omega,fun e=>?_,fun e=>?_,fun e=>?_,fun e=>by simp only;omega⟩,?_⟩ <;> first | (simp only at e;omega) | (rw [h6 (by omega),if_neg (by omega)])
  · refine ⟨⟨by simp only;omega,fun e=>?_,fun e=>?_,fun e=>by simp only;omega,fun e=>?_⟩,?_⟩ <;> first | (simp only at e;omega) | (rw [h6 (by omega),if_neg (by omega)])
  · refine ⟨⟨by simp only;omega,fun e=>?_,fun e=>?_,fun e=>?_,fun e=>?_⟩,?_⟩ <;> first | (simp only at e;omega) | (rw [h6 (by omega),if_neg (by omega)])
  · refine ⟨⟨by simp only;omega,fun e=>?_,fun e=>?_,fun e=>?_,fun e=>?_⟩,?_⟩ <;> first | (simp only at e;omega) | (rw [h6 (by omega),if_neg (by omega)])
  · refine ⟨⟨by simp only;omega,fun e=>?_,fun e=>?_,fun e=>?_,fun e=>?_⟩,?_⟩ <;> first | (simp only at e;omega) | (rw [h6 (by omega),if_neg (by omega)])
theorem dn_step {K:List ByteArray} {C:Cx} (h:Gd C K) (R:Rws) (p:Sp) (s:Su) (f:Rf) (R':Rws) (ps:List Sp) (N':List ByteArray) (s':Su) (l:List Nat) (hN:Nk K s.1) (ht:ThS C p) (e:evS C R s.1 p=(.mk f R' ps,N')) (hp:Parts (fun _=>Dn R') ps (N',s.2) s' l):Dn R s (s'.1,s'.2++[{ f with l:=l }]) s'.2.length:=by
  have hsh:=ev_shp h hN ht e;have hnm:=ev_names e;have D:=parts_dn hp;obtain ⟨new,en⟩:=D.pre;have hnn:N'.length≤s'.1.length:=D.names;refine ⟨⟨new++[{ f with l:=l }],by simp only;rw [en];simp⟩,by simp only;omega,by simp,fun ext nl g hnl hg=>?_,fun ext g hg=>?_⟩
  · cases g with
    | zero=>omega
    | succ g =>
      obtain ⟨c1,c2⟩:=ck_of (nl:=nl) hsh (Nat.le_trans hnn hnl) l;refine ⟨by simp,by simp only;rw [rf_end];exact c1,?_⟩
      simp only
      rw [rf_end];intro q hq;have hq1:=D.lt q hq;refine ⟨hq1,?_⟩
      have:=D.good ([{ f with l:=l }]++ext) nl g hnl (fun i hi=>by have:=D.lt i hi;omega) q hq;rw [c2] at this;rw [List.append_assoc];exact this
  · cases g with
    | zero=>omega
    | succ g =>
      unfold sz;simp only
      rw [rf_end];have:=D.sz ([{ f with l:=l }]++ext) g (fun i hi=>by have:=D.lt i hi;omega);rw [← List.append_assoc] at this;simp only at this ⊢
      rw [List.length_append,List.length_singleton];omega
end SC
end Go.Proofs.YtehgmmbdlnginaaGreatDoor
