/-
  Several texts in one: ScoR1,ScoFm,ScoR2.
-/
import Derived.Test.YtkcgbhlnkfogeaaGreatDoorQScoS5
import Derived.Test.YtkcgbhlnkfogeaaGreatDoorQScoTab
import Derived.Test.YtkcgbhlnkfogeaaGreatDoorQScoDx
import Derived.Test.YtkcgbhlnkfogeaaGreatDoorQScoMach
import Derived.Test.YtkcgbhlnkfogeaaGreatDoorQExpDta
import Derived.Deep.RegionLaw
import Derived.Deep.DeepCutAuto
import Derived.Deep.QuietTactic
import Derived.BigQuiet
namespace Go.Proofs.YtkcgbhlnkfogeaaGreatDoor
namespace SC
open LX RX SX EX
abbrev Su:=List ByteArray × List Rf
def thn {α β:Type} (X:Except Er α) (R:α→Except Er β):Except Er β:=match X with
  | .error a=>.error a
  | .ok x=>R x
theorem thn_thn {α β γ:Type} (X:Except Er α) (R:α→Except Er β) (S:β→Except Er γ):thn (thn X R) S=thn X fun x=>thn (R x) S:=by cases X <;> rfl
def sq (C:Cx) (R:Rws) (p:Sp) (s:Su):Except Er (Su × Nat):=thn (sx C R p s.1 s.2) fun y=>.ok ((y.1,y.2.1),y.2.2)
def runsS (Q:Sp→Su→Except Er (Su × Nat)):List Sp→Su→List Nat→Except Er (Su × List Nat)
  | [],s,l=>.ok (s,l)
  | p::ps,s,l=>thn (Q p s) fun y=>runsS Q ps y.1 (l++[y.2])
def onQ (C:Cx) (y:Sn × List ByteArray) (row:List Rf):Except Er (Su × Nat):=match y.1 with
  | .bad a e=>.error (a,e,y.2)
  | .mk f R ps=>thn (runsS (sq C R) ps (y.2,row) []) fun z=>.ok ((z.1.1,z.1.2++[{ f with l:=z.2 }]),z.1.2.length)
theorem runs_execs (C:Cx) (R:Rws):∀ (ps:List Sp) (N:List ByteArray) (row:List Rf) (l:List Nat),runsS (sq C R) ps (N,row) l=thn (execs (sx C R) ps N row l) fun y=>.ok ((y.1,y.2.1),y.2.2):=by
  intro ps;induction ps with
  | nil=>intro N row l;rfl
  | cons p ps ih =>
    intro N row l;rw [execs_cons];unfold runsS sq;cases sx C R p N row with
    | error e=>rfl
    | ok y=>obtain ⟨N',row',i⟩:=y;exact ih N' row' (l++[i])
theorem sq_eq {C:Cx} (h:Fw C) (R:Rws) (p:Sp) (s:Su):sq C R p s=onQ C (evS C R s.1 p) s.2:=by
  unfold sq;rw [sx_eq h];generalize evS C R s.1 p=y;obtain ⟨pl,N1⟩:=y;cases pl with
  | bad a e=>rfl
  | mk f R1 ps =>
    simp only [onS,onQ,runs_execs]
    cases execs (sx C R1) ps N1 s.2 [] with
    | error e=>rfl
    | ok y=>rfl
theorem tops_runs (C:Cx):∀ (ts:List Nat) (N:List ByteArray) (row:List Rf) (t:List Nat),tops C ts N row t=thn (runsS (sq C []) (ts.map .form) (N,row) t) fun y=>.ok (y.1.1,y.1.2,y.2):=by
  intro ts;induction ts with
  | nil=>intro N row t;rfl
  | cons i ts ih =>
    intro N row t;rw [tops,List.map_cons];unfold runsS sq;cases sx C [] (.form i) N row with
    | error e=>rfl
    | ok y=>obtain ⟨N',row',k⟩:=y;exact ih N' row' (t++[k])
def fstS (Y:Except Er (Su × Nat)):Except Er Su:=thn Y fun y=>.ok y.1
def fstsS (Y:Except Er (Su × List Nat)):Except Er Su:=thn Y fun y=>.ok y.1
theorem runsS_cons (Q:Sp→Su→Except Er (Su × Nat)) (p:Sp) (ps:List Sp) (s:Su) (l:List Nat):runsS Q (p::ps) s l=thn (Q p s) fun y=>runsS Q ps y.1 (l++[y.2]):=rfl
theorem runsS_app (Q:Sp→Su→Except Er (Su × Nat)) (qs:List Sp):∀ (ps:List Sp) (s:Su) (l:List Nat),runsS Q (ps++qs) s l=thn (runsS Q ps s l) fun y=>runsS Q qs y.1 y.2:=by
  intro ps;induction ps with
  | nil=>intro s l;rfl
  | cons p ps ih =>
    intro s l;rw [List.cons_append,runsS_cons,runsS_cons];cases Q p s with
    | error a=>rfl
    | ok y=>obtain ⟨s1,k⟩:=y;exact ih s1 _
theorem runsS_one (Q:Sp→Su→Except Er (Su × Nat)) (p:Sp) (s:Su) (l:List Nat):runsS Q [p] s l=thn (Q p s) fun y=>.ok (y.1,l++[y.2]):=by
  unfold runsS;cases Q p s with
  | error a=>rfl
  | ok y=>obtain ⟨s1,k⟩:=y;rfl
theorem fstsS_next (Y:Except Er (Su × List Nat)) (R:Su→Except Er (Su × Nat)):fstsS (thn Y fun y=>thn (R y.1) fun z=>.ok (z.1,y.2++[z.2]))=fstS (thn (fstsS Y) R):=by
  cases Y with
  | error a=>rfl
  | ok y =>
    show fstsS (thn (R y.1) _)=fstS (R y.1)
    cases R y.1 <;> rfl
theorem collectS (Y:Except Er (Su × List Nat)) (f:Rf) (ks:List Nat) (h:∀ s k,Y = .ok (s,k)→k=ks):thn (fstsS Y) (fun s=>.ok ((s.1,s.2++[{ f with l:=ks }]),s.2.length))=thn Y fun z=>.ok ((z.1.1,z.1.2++[{ f with l:=z.2 }]),z.1.2.length):=by
  cases Y with
  | error a=>rfl
  | ok y =>
    obtain ⟨s,k⟩:=y;have:=h s k rfl;subst this;rfl
theorem runsS_take {Q:Sp→Su→Except Er (Su × Nat)} {l:List Nat} {j:Nat} (h:j < l.length) (X:Except Er Su) :
    (thn X fun s=>runsS Q ((l.take (j+1)).map .form) s [])=thn (thn X fun s=>runsS Q ((l.take j).map .form) s []) fun y=>thn (Q (.form l[j]) y.1) fun z=>.ok (z.1,y.2++[z.2]):=by
  rw [thn_thn];congr 1
  funext st
  rw [List.take_succ_eq_append_getElem h,List.map_append,runsS_app];congr 1 <;> (funext y;exact runsS_one Q _ _ _)
def sumF (C:Cx) (l:List Nat):Nat:=(l.map (F C)).sum
theorem sumF_take {C:Cx} {l:List Nat} {j:Nat} (h:j < l.length):sumF C (l.take (j+1))=sumF C (l.take j)+F C l[j]:=by
  unfold sumF;rw [List.take_succ_eq_append_getElem h,List.map_append,List.sum_append];simp
theorem sumF_le {C:Cx} (l:List Nat) (j:Nat):sumF C (l.take j)≤sumF C l:=by
  unfold sumF;conv=>rhs;rw [← List.take_append_drop j l]
  rw [List.map_append,List.sum_append];omega
theorem F_kid {C:Cx} (h:Fw C) {i p:Nat} (hp:p∈(fmAt C.fs i).l):F C p+1≤F C i:=by
  rw [F_eq h i];have:F C p≤((fmAt C.fs i).l.map (F C)).sum:=by
    generalize (fmAt C.fs i).l=l at hp;induction l with
    | nil=>cases hp
    | cons a l ih =>
      rw [List.map_cons,List.sum_cons]
      rcases List.mem_cons.1 hp with rfl | hp
      · omega
      · have:=ih hp;omega
  omega
def quoted:Sp→Prop
  | .form _=>False
  | _=>True
theorem quoted_ev {C:Cx} {R:Rws} {N:List ByteArray} {p:Sp} (h:quoted p):∃ f ps N',evS C R N p=(.mk f R ps,N')∧∀ q∈ps,quoted q:=by
  have hql:∀ a l,∃ f ps,quoL R a l = .mk f R ps∧∀ q∈ps,quoted q:=fun a l=>by
    cases l with
    | nil=>exact ⟨_,_,rfl,fun q hq=>by cases hq⟩
    | cons i l=>exact ⟨_,_,rfl,fun q hq=>by
        simp only [List.mem_cons,List.not_mem_nil,or_false] at hq
        rcases hq with rfl | rfl <;> trivial⟩
  cases p with
  | form i=>cases h
  | ql a l =>
    obtain ⟨f,ps,e,hp⟩:=hql a l;exact ⟨f,ps,N,by simp only [evS,e],hp⟩
  | qd a i =>
    simp only [evS,quo]
    split
    · exact ⟨_,_,_,rfl,fun q hq=>by cases hq⟩
    split
    · exact ⟨_,_,_,rfl,fun q hq=>by cases hq⟩
    split
    · exact ⟨_,_,_,rfl,fun q hq=>by cases hq⟩
    · obtain ⟨f,ps,e,hp⟩:=hql a (ndAt C.ns i).l;exact ⟨f,ps,N,by rw [e],hp⟩
theorem quoted_sq {C:Cx} (h:Fw C):∀ (n:Nat) (p:Sp),wgt C p≤n→quoted p→∀ R s,∃ y,sq C R p s = .ok y:=by
  intro n;induction n with
  | zero=>intro p hp;have:=wgt_pos C p;omega
  | succ n ih =>
    intro p hp hq R s;have hw:=ev_wg h R s.1 p;obtain ⟨f,ps,N',e,hqs⟩:=quoted_ev (C:=C) (R:=R) (N:=s.1) hq;rw [sq_eq h,e];rw [e] at hw;simp only [wgn] at hw
    have hps:∀ (ps:List Sp),wgts C ps≤n→(∀ q∈ps,quoted q)→∀ s l,∃ y,runsS (sq C R) ps s l = .ok y:=by
      intro ps;induction ps with
      | nil=>intro _ _ s l;exact ⟨_,rfl⟩
      | cons q ps ihp =>
        intro h1 h2 s l;rw [wgts_cons] at h1;obtain ⟨y,hy⟩:=ih q (by omega) (h2 q (List.mem_cons_self ..)) R s;rw [runsS_cons,hy];exact ihp (by omega) (fun q hq=>h2 q (List.mem_cons_of_mem _ hq)) _ _
    obtain ⟨y,hy⟩:=hps ps (by omega) hqs (N',s.2) [];simp only [onQ,hy]
    exact ⟨_,rfl⟩
end SC
end Go.Proofs.YtkcgbhlnkfogeaaGreatDoor
namespace Go.Proofs.YtkcgbhlnkfogeaaGreatDoor
namespace SC
open LX RX SX EX
inductive Parts (Q:Sp→Su→Su→Nat→Prop):List Sp→Su→Su→List Nat→Prop
  | nil (s:Su):Parts Q [] s s []
  | cons {p:Sp} {ps:List Sp} {s s1 s2:Su} {i:Nat} {l:List Nat}:Q p s s1 i→Parts Q ps s1 s2 l→Parts Q (p::ps) s s2 (i::l)
theorem Parts.len {Q:Sp→Su→Su→Nat→Prop} {ps:List Sp} {s s':Su} {l:List Nat} (h:Parts Q ps s s' l):l.length=ps.length:=by
  induction h with
  | nil s=>rfl
  | cons _ _ ih=>simp [ih]
theorem runs_parts {K:List ByteArray} {Q:Sp→Su→Su→Nat→Prop} {F:Sp→Su→Except Er (Su × Nat)}:∀ (ps:List Sp),(∀ p∈ps,∀ s s' i,Nk K s.1→F p s = .ok (s',i)→Q p s s' i∧Nk K s'.1)→∀ (s s':Su) (l0 l:List Nat),Nk K s.1→runsS F ps s l0 = .ok (s',l) →
    ∃ l1,l=l0++l1∧Parts Q ps s s' l1∧Nk K s'.1:=by
  intro ps;induction ps with
  | nil =>
    intro _ s s' l0 l hN h;injection h with h;injection h with h1 h2;subst h1 h2;exact ⟨[],by simp,.nil s,hN⟩
  | cons p ps ih =>
    intro hF s s' l0 l hN h;rw [runsS_cons] at h;cases hp:F p s with
    | error e=>rw [hp] at h;cases h
    | ok y =>
      obtain ⟨s1,i⟩:=y;rw [hp] at h;obtain ⟨h1,h2⟩:=hF p (List.mem_cons_self ..) s s1 i hN hp;obtain ⟨l1,e,h3,h4⟩:=ih (fun q hq=>hF q (List.mem_cons_of_mem _ hq)) s1 s' (l0++[i]) l h2 h;exact ⟨i::l1,by rw [e];simp,.cons h1 h3,h4⟩
theorem sq_ind {K:List ByteArray} {C:Cx} (h:Gd C K) {P:Rws→Sp→Su→Su→Nat→Prop}
    (step:∀ R p (s:Su) f R' ps N' (s':Su) l,Nk K s.1→ThS C p→evS C R s.1 p=(.mk f R' ps,N')→Nk K N'→Parts (P R') ps (N',s.2) s' l→P R p s (s'.1,s'.2++[{ f with l:=l }]) s'.2.length) :
    ∀ (m:Nat) (p:Sp),wgt C p≤m→ThS C p→∀ R (s s':Su) i,Nk K s.1→sq C R p s = .ok (s',i)→P R p s s' i∧Nk K s'.1:=by
  intro m;induction m with
  | zero=>intro p hp;have:=wgt_pos C p;omega
  | succ m ih =>
    intro p hp ht R s s' i hN hs;have hw:=ev_wg h.fw R s.1 p;have hnk:=ev_nk h hN R p ht;have hth:=fun f R' ps N' (e:evS C R s.1 p=(.mk f R' ps,N'))=>ev_th h ht e
    have hst:=fun f R' ps N' (s':Su) l (e:evS C R s.1 p=(.mk f R' ps,N'))=>step R p s f R' ps N' s' l hN ht e
    rw [sq_eq h.fw] at hs;generalize evS C R s.1 p=y at *;obtain ⟨pl,N1⟩:=y;cases pl with
    | bad a e=>cases hs
    | mk f R1 ps =>
      simp only [wgn] at hw
      simp only [onQ] at hs
      cases hr:runsS (sq C R1) ps (N1,s.2) [] with
      | error e=>rw [hr] at hs;cases hs
      | ok z =>
        obtain ⟨s1,l⟩:=z;rw [hr] at hs;injection hs with hs;injection hs with h1 h2;subst h1 h2;obtain ⟨l1,e,h3,h4⟩:=runs_parts (K:=K) (Q:=P R1) ps (fun q hq s s' i hN hs=>ih q (by have:=wgts_mem (C:=C) hq;omega) (hth _ _ _ _ rfl q hq) R1 s s' i hN hs) (N1,s.2) s1 [] l hnk hr;rw [List.nil_append] at e;subst e;exact ⟨hst _ _ _ _ _ _ rfl hnk h3,h4⟩
theorem tops_ind {K:List ByteArray} {C:Cx} (h:Gd C K) {P:Rws→Sp→Su→Su→Nat→Prop}
    (step:∀ R p (s:Su) f R' ps N' (s':Su) l,Nk K s.1→ThS C p→evS C R s.1 p=(.mk f R' ps,N')→Nk K N'→Parts (P R') ps (N',s.2) s' l→P R p s (s'.1,s'.2++[{ f with l:=l }]) s'.2.length) {ts:List Nat} (ht:∀ t∈ts,t < C.fs.length)
    {N:List ByteArray} {row:List Rf} {l:List Nat} (hx:tops C ts [] [] [] = .ok (N,row,l)):Parts (P []) (ts.map .form) ([],[]) (N,row) l∧Nk K N:=by
  rw [tops_runs] at hx;cases hr:runsS (sq C []) (ts.map .form) ([],[]) [] with
  | error e=>rw [hr] at hx;cases hx
  | ok z =>
    obtain ⟨s1,l1⟩:=z;rw [hr] at hx;injection hx with hx;injection hx with h1 hx;injection hx with h2 h3;obtain ⟨l2,e,h4,h5⟩:=runs_parts (K:=K) (Q:=P []) (ts.map .form) (fun q hq s s' i hN hs=>sq_ind h step _ q (Nat.le_refl _) (forms_th ht q hq) [] s s' i hN hs) ([],[]) s1 [] l1 (Nk.nil K) hr;rw [List.nil_append] at e;subst e h3;have:s1=(N,row):=by rw [← h1,← h2]
    rw [this] at h4 h5;exact ⟨h4,h5⟩
end SC
end Go.Proofs.YtkcgbhlnkfogeaaGreatDoor
namespace Go.Proofs.YtkcgbhlnkfogeaaGreatDoor
open Go.RowKit
set_option linter.unusedVariables false
namespace SR
open LX SX RW6 EX SC SM
open EW (Sl Zx Fr ptr num strs cell_far forms_slice form_info own_form sz_alloc)
open RX (Nd)
structure Dh where
  dv:Value
  lv:Value
  ov:Value
  own:List ByteArray
  K:List ByteArray
structure Rs (w0 w:World) (E:List Nat) (q:Nat) (h:Dh) (nv rv:Value) (bad er:Int) (N:List ByteArray) (rs:List (Rf × Value)):Prop where
  far:MM.Far [] w0 w
  qb:w0.heap.size≤q
  head:MM.Row w q 107 [h.dv,h.lv,h.ov,nv,rv,.int .i64 bad,.int .i64 er]
  row:w.ownsRow w0.heap.size 57 8 rv rs.length (rfC rs)
  nam:w.ownsRow w0.heap.size 9 1 nv N.length (strs N)
  own:w.ownsRow w0.heap.size 9 1 h.ov h.own.length (strs h.own)
  rd:∀ x∈rs,Sl w (E++Zx q rv) x.2 (ints x.1.l)
  ez:∀ b∈E,b < w.heap.size∧w0.heap.size≤b∧b∉Zx q rv∧nv.ownBlock≠some b∧h.ov.ownBlock≠some b
section
variable {w0 w w1 w2:World} {E:List Nat} {q:Nat} {h:Dh} {nv rv rv1:Value} {bad er:Int} {N:List ByteArray} {rs:List (Rf × Value)}
theorem Rs.to (s:Rs w0 w E q h nv rv bad er N rs) (f:MM.Far [] w w1):Rs w0 w1 E q h nv rv bad er N rs :=
  ⟨s.far.trans f (by simp),s.qb,s.head.far f (by simp),MM.own_far s.row f (by simp),MM.own_far s.nam f (by simp),MM.own_far s.own f (by simp),fun x hx=>(s.rd x hx).far f (by simp),fun b hb=>by
    obtain ⟨h1,h2⟩:=s.ez b hb;exact ⟨Nat.lt_of_lt_of_le h1 f.size,h2⟩⟩
theorem Rs.low (s:Rs w0 w E q h nv rv bad er N rs):∀ b∈Zx q rv,w0.heap.size≤b:=fun b hb=>by
  rcases List.mem_cons.1 hb with rfl | hb
  · exact s.qb
  · exact (MM.own_lt s.row b (by simpa using hb)).2
theorem Rs.z (s:Rs w0 w E q h nv rv bad er N rs):∀ b∈Zx q rv,b < w.heap.size:=fun b hb=>by
  rcases List.mem_cons.1 hb with rfl | hb
  · exact s.head.lt
  · exact (MM.own_lt s.row b (by simpa using hb)).1
theorem off_q {e:TypeId} {size n base:Nat} {v:Value} {xs vs:List Value} (hH:MM.Row w q 107 vs) (ho:w.ownsRow base e size v n xs) (ht:e≠107):∀ b,v.ownBlock=some b→b∉[q]:=by
  intro b hb hm;have:b=q:=by simpa using hm
  subst this;exact MM.own_row_ne ho hH ht hb
theorem off_own {e e':TypeId} {size size' n n' base base':Nat} {v v':Value} {xs xs':List Value} (h:w.ownsRow base e size v n xs) (h':w.ownsRow base' e' size' v' n' xs') (ht:e≠e'):∀ b,v.ownBlock=some b→b∉v'.ownBlock.toList:=fun b hb hm =>
  MM.own_own_ne h h' ht b hb (by simpa using hm)
theorem Rs.put {rv':Value} (x:Rf) (hx:Value) (s:Rs w0 w E q h nv rv bad er N rs) (hl:Sl w (E++Zx q rv) hx (ints x.l))
    (hr:w1.ownsRow w0.heap.size 57 8 rv' (rs.length+1) (rfC rs++rfL (x,hx))) (f:MM.Far rv.ownBlock.toList w w1) (hat:rv'.ownBlock=rv.ownBlock∨∃ b,rv'.ownBlock=some b∧w.heap.size≤b) :
    Rs w0 (w1.setCell ⟨q,4,none⟩ rv') E q h nv rv' bad er N (rs++[(x,hx)])∧Fr w (w1.setCell ⟨q,4,none⟩ rv') q rv rv':=by
  have hH:MM.Row w1 q 107 [h.dv,h.lv,h.ov,nv,rv,.int .i64 bad,.int .i64 er]:=s.head.far f (fun hm=>MM.own_row_ne s.row s.head (by decide) (by simpa using hm));have g:=cell_far w1 q 4 rv';have hN1:=MM.own_far s.nam f (off_own s.nam s.row (by decide));have hO1:=MM.own_far s.own f (off_own s.own s.row (by decide));have f2:MM.Far (Zx q rv) w (w1.setCell ⟨q,4,none⟩ rv'):=(f.mono (fun b hb _=>List.mem_cons_of_mem _ hb)).trans g (fun b hb _=>by simp at hb;simp [hb]);have hF:Fr w (w1.setCell ⟨q,4,none⟩ rv') q rv rv':=⟨f2,fun b hb=>by
    rcases List.mem_cons.1 hb with rfl | hb
    · exact .inl (List.mem_cons_self ..)
    · have hb:rv'.ownBlock=some b:=by simpa using hb
      rcases hat with e | ⟨g,e,hg⟩
      · exact .inl (List.mem_cons_of_mem _ (by rw [← e];simpa using hb))
      · rw [e] at hb;injection hb with hb;exact .inr (by omega)⟩
  refine ⟨⟨s.far.trans f2 (fun b hb hl=>by have:=s.low b hb;omega),s.qb,hH.put 4 rv',?_,MM.own_far hN1 g (off_q hH hN1 (by decide)),MM.own_far hO1 g (off_q hH hO1 (by decide)),fun y hy=>?_,fun b hb=>?_⟩,hF⟩
  · rw [List.length_append,rfC_snoc];exact MM.own_far hr g (off_q hH hr (by decide))
  · rcases List.mem_append.1 hy with hy | hy
    · exact hF.sl (s.rd y hy)
    · have:y=(x,hx):=by simpa using hy
      subst this;exact hF.sl hl
  · obtain ⟨h1,h2,h3,h4⟩:=s.ez b hb;refine ⟨Nat.lt_of_lt_of_le h1 f2.size,h2,fun hm=>?_,h4⟩
    rcases hF.new b hm with h5 | h5
    · exact h3 h5
    · omega
theorem Rs.name {nv':Value} {N':List ByteArray} (s:Rs w0 w E q h nv rv bad er N rs) (hr:w1.ownsRow w0.heap.size 9 1 nv' N'.length (strs N')) (f:MM.Far [] w w1) (hat:∀ b,nv'.ownBlock=some b→nv.ownBlock=some b∨w.heap.size≤b) :
    Rs w0 (w1.setCell ⟨q,3,none⟩ nv') E q h nv' rv bad er N' rs∧Fr w (w1.setCell ⟨q,3,none⟩ nv') q rv rv:=by
  have k:=s.to f;have g:=cell_far w1 q 3 nv';have f2:MM.Far (Zx q rv) w (w1.setCell ⟨q,3,none⟩ nv'):=(f.mono (fun b hb _=>by cases hb)).trans g (fun b hb _=>by simp at hb;simp [hb,Zx]);have hF:Fr w (w1.setCell ⟨q,3,none⟩ nv') q rv rv:=⟨f2,fun _ h=>.inl h⟩
  refine ⟨⟨s.far.trans f2 (fun b hb hl=>by have:=s.low b hb;omega),s.qb,k.head.put 3 nv',MM.own_far k.row g (off_q k.head k.row (by decide)),MM.own_far hr g (off_q k.head hr (by decide)),MM.own_far k.own g (off_q k.head k.own (by decide)),fun y hy=>hF.sl (s.rd y hy),fun b hb=>?_⟩,hF⟩
  obtain ⟨h1,h2,h3,h4,h5⟩:=s.ez b hb;refine ⟨Nat.lt_of_lt_of_le h1 f2.size,h2,h3,fun e=>?_,h5⟩
  rcases hat b e with e | e
  · exact h4 e
  · omega
theorem Rs.bad_ (s:Rs w0 w E q h nv rv bad er N rs) (a e:Int):Rs w0 ((w.setCell ⟨q,5,none⟩ (.int .i64 a)).setCell ⟨q,6,none⟩ (.int .i64 e)) E q h nv rv a e N rs∧Fr w ((w.setCell ⟨q,5,none⟩ (.int .i64 a)).setCell ⟨q,6,none⟩ (.int .i64 e)) q rv rv:=by
  have g:MM.Far [q] w ((w.setCell ⟨q,5,none⟩ (.int .i64 a)).setCell ⟨q,6,none⟩ (.int .i64 e)):=(cell_far w q 5 (.int .i64 a)).setCell (by simp) _;have f2:MM.Far (Zx q rv) w ((w.setCell ⟨q,5,none⟩ (.int .i64 a)).setCell ⟨q,6,none⟩ (.int .i64 e)):=g.mono (fun b hb _=>by simp at hb;simp [hb,Zx]);have hF:Fr w ((w.setCell ⟨q,5,none⟩ (.int .i64 a)).setCell ⟨q,6,none⟩ (.int .i64 e)) q rv rv:=⟨f2,fun _ h=>.inl h⟩
  refine ⟨⟨s.far.trans f2 (fun b hb hl=>by have:=s.low b hb;omega),s.qb,(s.head.put 5 _).put 6 _,MM.own_far s.row g (off_q s.head s.row (by decide)),MM.own_far s.nam g (off_q s.head s.nam (by decide)),MM.own_far s.own g (off_q s.head s.own (by decide)),fun y hy=>hF.sl (s.rd y hy),fun b hb=>?_⟩,hF⟩
  obtain ⟨h1,h2⟩:=s.ez b hb;exact ⟨Nat.lt_of_lt_of_le h1 f2.size,h2⟩
def PutQ (w0 w:World) (E:List Nat) (q:Nat) (h:Dh) (nv rv:Value) (bad er:Int) (N:List ByteArray) (rs:List (Rf × Value)) (f:Rf) (e:Ending) (w':World):Prop :=
  e = .returned (.int .i64 ((rs.length:Nat):Int))∧∃ rv' x,x.1=f∧Rs w0 w' E q h nv rv' bad er N (rs++[x])∧Fr w w' q rv rv'
set_option maxHeartbeats 4000000 in
set_option maxRecDepth 20000 in
theorem put_any (s:Rs w0 w E q h nv rv bad er N rs) (hn:rs.length≤1000000000) (f:Rf) {B:Option Addr} {nl d:Nat} (hl:Sl w (E++Zx q rv) (.slice B nl d) (ints f.l)) :
    Calls Tryz.prog 73 #[ptr q,.agg #[.int .u8 f.kind,.int .i64 f.at_,.int .i64 f.n,.int .i64 f.a,.string f.s,.slice none 0 0,.int .u64 f.w,.slice B nl d]] w (PutQ w0 w E q h nv rv bad er N rs f):=by
  obtain ⟨rA,rc,rfl⟩:=own_form w0 s.row;have hone:=rf_one f B nl d;obtain ⟨OB,hOB⟩:∃ o:Obj,.cells #[.int .u8 f.kind,.int .i64 f.at_,.int .i64 f.n,.int .i64 f.a,.string f.s,.slice none 0 0,.int .u64 f.w,.slice B nl d] 57=o:=⟨_,rfl⟩
  have F0:=(MM.Far.refl [] w).alloc OB;have hD0:=s.to F0;have hl0:=hl.far F0 (by simp);have c1:=hD0.head.at (i:=4) rfl;have f1:=hD0.head.frozen 4;have hB:MM.Row (w.alloc OB) w.heap.size 57 [.int .u8 f.kind,.int .i64 f.at_,.int .i64 f.n,.int .i64 f.a,.string f.s,.slice none 0 0,.int .u64 f.w,.slice B nl d]:=by
    rw [← hOB];exact MM.Row.new w 57 [.int .u8 f.kind,.int .i64 f.at_,.int .i64 f.n,.int .i64 f.a,.string f.s,.slice none 0 0,.int .u64 f.w,.slice B nl d]
  have z0:=hB.at (i:=0) rfl;have z1:=hB.at (i:=1) rfl;have z2:=hB.at (i:=2) rfl;have z3:=hB.at (i:=3) rfl;have z4:=hB.at (i:=4) rfl;have z5:=hB.at (i:=5) rfl;have z6:=hB.at (i:=6) rfl;have z7:=hB.at (i:=7) rfl;have HD:=Lib.hid hD0;have HLL:=Lib.hid hl0;have HF0:=Lib.hid F0;have HONE:=Lib.hid hone;have hbW:=HD.out.far.size;clear s hl hB F0 hD0 hl0 hone;unfold ptr;subst hOB;go_enter Tryz.func73,Tryz.ntmps73
  go_wp2;generalize hWE:w.alloc (.cells #[.int .u8 f.kind,.int .i64 f.at_,.int .i64 f.n,.int .i64 f.a,.string f.s,.slice none 0 0,.int .u64 f.w,.slice B nl d] 57)=W at *;have c1a:=(HD.out.to ((MM.Far.refl [] W).alloc (.cells #[.int .u8 f.kind,.int .i64 f.at_,.int .i64 f.n,.int .i64 f.a,.string f.s,.slice none 0 0,.int .u64 f.w,.slice B nl d] 57))).head.at (i:=4) rfl
  go_cut [] (fun wx=>∃ rv' x,x.1=f∧Rs w0 wx E q h nv rv' bad er N (rs++[x])∧Fr w wx q (.slice rA rs.length rc) rv')
  case first =>
    go_region_law (
      refine MO.step_append ?_ (.tmp 9) (.tmp 11) 28 ?_ w0.heap.size 57 _ 8 104 forms_slice form_info rfl (by omega) (.slice rA rs.length rc) rs.length (rfC rs) ?_ ?_ (some ⟨W.heap.size,0,none⟩) 1 1 (rfL (f,.slice B nl d)) ?_ rfl (fun h=>by cases h) [] ?_ HONE.out ?_ ?_ ?_ ?_
      · rfl
      · rfl
      · rfl
      · exact HD.out.row.alloc _
      · rfl
      · exact (MM.Src.row (MM.Row.new W 57 (rfL (f,.slice B nl d))) (by simp) _ (fun j u hu=>hu))
      · simp only [maxLen];omega
      · omega
      · simp;omega
      intro v2 w2 hv2 hg2 hat2;obtain ⟨A2,c2x,rfl⟩:=own_form w0 hv2;have hat3:(Value.slice A2 (rs.length+1) c2x).ownBlock=(Value.slice rA rs.length rc).ownBlock∨∃ b,(Value.slice A2 (rs.length+1) c2x).ownBlock=some b∧W.heap.size≤b:=hat2.imp id (fun e=>⟨_,e,((MM.Far.refl [] W).alloc _).drew.size⟩);have F2:MM.Far (Value.slice rA rs.length rc).ownBlock.toList W w2:=RC6.far_app hg2;have HH2:Hid (MM.Row w2 q 107 _):=Lib.hid (HD.out.head.far F2 (fun hm=>MM.own_row_ne HD.out.row HD.out.head (by decide) (by simpa using hm)));have d1W:=HH2.out.at (i:=4) rfl;have e1W:=HH2.out.frozen 4;have HN:=Lib.hid (HD.out.put (w1:=w2) f (.slice B nl d) HLL.out hv2 F2 hat3);clear hg2 hv2 hat2 hat3 F2)
    all_goals
      go_wp2_with fail
      go_meet
      exact ⟨_,_,rfl,HN.out.1,(Fr.quiet HF0.out).trans HN.out.2⟩
  case rest =>
    obtain ⟨rv',x,hx,hR,hFr⟩:=hcut;obtain ⟨A3,c3,rfl⟩:=own_form w0 hR.row;have HR:=Lib.hid hR;have HFr:=Lib.hid hFr;have HX:=Lib.hid hx;have k1:=hR.head.at (i:=4) rfl;have hlen:(rs++[x]).length=rs.length+1:=by simp
    rw [hlen] at k1;have hw1:IntKind.i64.wrap (rs.length:Int)=(rs.length:Int):=IntWalk.i64_in _ (by omega);have hw2:IntKind.i64.wrap ((rs.length:Int)+1 - 1)=(rs.length:Int):=by rw [Int.add_sub_cancel];exact hw1
    clear hR hFr hx z0 z1 z2 z3 z4 z5 z6 z7 c1 f1 c1a HD HLL HF0 HONE hWE hlen;go_wp2;go_ret
    exact ⟨rfl,_,x,HX.out,HR.out,HFr.out⟩
end
def Sst (w0 w:World) (E:List Nat) (q:Nat) (h:Dh) (rv:Value) (X:Except Er Su) (B:Nat):Prop :=
  ∃ nv bad er N rs,Rs w0 w E q h nv rv bad er N rs∧rs.length≤B∧Nk h.K N∧match X with
    | .ok s=>bad = -1∧N=s.1∧rs.map (·.1)=s.2
    | .error x=>bad=x.1∧0≤x.1∧er=x.2.1∧N=x.2.2
def OutS (w0 w:World) (E:List Nat) (q:Nat) (h:Dh) (rv:Value) (Y:Except Er (Su × Nat)) (B:Nat) (e:Ending) (w':World):Prop :=
  ∃ (v:Nat) (rv':Value),e = .returned (num ((v:Nat):Int))∧Fr w w' q rv rv'∧Sst w0 w' E q h rv' (fstS Y) B∧∀ s k,Y = .ok (s,k)→v=k
section
variable {w0 w w1 w2:World} {E:List Nat} {q:Nat} {h:Dh} {rv rv1:Value} {X:Except Er Su} {Y:Except Er (Su × Nat)} {B B':Nat} {e:Ending}
theorem Sst.mono (s:Sst w0 w E q h rv X B) (hB:B≤B'):Sst w0 w E q h rv X B':=by
  obtain ⟨nv,bad,er,N,rs,h1,h2,h3⟩:=s;exact ⟨nv,bad,er,N,rs,h1,by omega,h3⟩
theorem Sst.to (s:Sst w0 w E q h rv X B) (f:MM.Far [] w w1):Sst w0 w1 E q h rv X B:=by
  obtain ⟨nv,bad,er,N,rs,h1,h2,h3⟩:=s;exact ⟨nv,bad,er,N,rs,h1.to f,h2,h3⟩
theorem OutS.mono (s:OutS w0 w E q h rv Y B e w1) (hB:B≤B'):OutS w0 w E q h rv Y B' e w1:=by
  obtain ⟨v,rv',h1,h2,h3,h4⟩:=s;exact ⟨v,rv',h1,h2,h3.mono hB,h4⟩
theorem OutS.from (s:OutS w0 w1 E q h rv1 Y B e w2) (f:Fr w w1 q rv rv1):OutS w0 w E q h rv Y B e w2:=by
  obtain ⟨v,rv',h1,h2,h3,h4⟩:=s;exact ⟨v,rv',h1,f.trans h2,h3,h4⟩
theorem Sst.low (s:Sst w0 w E q h rv X B):MM.Far [] w0 w∧(∀ b∈Zx q rv,b < w.heap.size)∧w0.heap.size≤q:=by
  obtain ⟨nv,bad,er,N,rs,h1,_⟩:=s;exact ⟨h1.far,h1.z,h1.qb⟩
theorem Sst.zlow (s:Sst w0 w E q h rv X B):∀ b∈E++Zx q rv,b < w.heap.size∧w0.heap.size≤b:=by
  obtain ⟨nv,bad,er,N,rs,h1,_⟩:=s;intro b hb
  rcases List.mem_append.1 hb with hb | hb
  · exact ⟨(h1.ez b hb).1,(h1.ez b hb).2.1⟩
  · exact ⟨h1.z b hb,h1.low b hb⟩
theorem Sst.ezE (s:Sst w0 w E q h rv X B):∀ b∈E,b < w.heap.size∧w0.heap.size≤b∧b∉Zx q rv:=by
  obtain ⟨nv,bad,er,N,rs,h1,_⟩:=s;intro b hb;obtain ⟨a1,a2,a3,_⟩:=h1.ez b hb;exact ⟨a1,a2,a3⟩
theorem Sst.cells (s:Sst w0 w E q h rv X B):∃ nv bad er,MM.Row w q 107 [h.dv,h.lv,h.ov,nv,rv,.int .i64 bad,.int .i64 er]∧match X with
    | .ok _=>bad = -1
    | .error x=>bad=x.1∧0≤x.1∧er=x.2.1:=by
  obtain ⟨nv,bad,er,N,rs,h1,h2,h3,h4⟩:=s;refine ⟨nv,bad,er,h1.head,?_⟩
  cases X with
  | ok s=>exact h4.1
  | error x=>exact ⟨h4.1,h4.2.1,h4.2.2.1⟩
theorem sput_any (s:Sst w0 w E q h rv X B) (hB:B≤1000000000) (f:Rf) {A:Option Addr} {nl d:Nat} (hl:Sl w (E++Zx q rv) (.slice A nl d) (ints f.l)) :
    Calls Tryz.prog 73 #[ptr q,.agg #[.int .u8 f.kind,.int .i64 f.at_,.int .i64 f.n,.int .i64 f.a,.string f.s,.slice none 0 0,.int .u64 f.w,.slice A nl d]] w (OutS w0 w E q h rv (thn X fun s=>.ok ((s.1,s.2++[f]),s.2.length)) (B+1)):=by
  obtain ⟨nv,bad,er,N,rs,h1,h2,h3,h4⟩:=s;refine (put_any h1 (by omega) f hl).mono fun e w' ⟨he,rv',x,hx,hR,hF⟩=>?_
  refine ⟨rs.length,rv',he,hF,⟨nv,bad,er,N,rs++[x],hR,by rw [List.length_append];simp;omega,h3,?_⟩,?_⟩
  · cases X with
    | error a=>exact h4
    | ok st=>exact ⟨h4.1,h4.2.1,by rw [List.map_append,h4.2.2];simp [hx]⟩
  · cases X with
    | error a=>intro st k e;cases e
    | ok st =>
      intro st' k e;injection e with e;injection e with _ e;rw [← e,← h4.2.2,List.length_map]
theorem sconst_any (s:Sst w0 w E q h rv X B) (hB:B≤1000000000) (a k:Int) :
    Calls Tryz.prog 69 #[ptr q,num a,.int .u64 k] w (OutS w0 w E q h rv (thn X fun s=>.ok ((s.1,s.2++[cst a k]),s.2.length)) (B+1)):=by
  have HC:=Lib.hid (sput_any s hB (cst a k) (Sl.nil _ _));clear s;unfold cst at HC;simp only at HC
  unfold LX.emp at HC;have HE:Hid ((thn X fun s=>.ok ((s.1,s.2++[cst a k]),s.2.length))=(thn X fun s:Su=>.ok ((s.1,s.2++[({ kind:=13,at_:=a,n:=0,a:=0,s:=⟨#[]⟩,w:=k,l:=[] }:Rf)]),s.2.length))):=Lib.hid rfl;rw [HE.out];clear HE;unfold num ptr at *;go_enter Tryz.func69,Tryz.ntmps69
  go_wp2_with (first
    | (go_at_call 73;(with_reducible refine HC.out.mono ?_);rintro e w1 hQ;have HQ:=Lib.hid hQ;obtain ⟨k1,fv1,he,-⟩:=hQ;(replace he:e = .returned (.int .i64 ((k1:Nat):Int)):=he);subst he))
  go_ret
  exact HQ.out
end
end SR
end Go.Proofs.YtkcgbhlnkfogeaaGreatDoor
