/-
  Several texts in one: ScoBad,ScoR1,ScoTx,ScoFm.
-/
import Derived.Test.YtodjaabcjojlkaaDoorQScoGd
import Derived.Test.YtodjaabcjojlkaaDoorQScoS2
namespace Go.Proofs.YtodjaabcjojlkaaDoor
namespace SC
open LX RX SX EX
theorem ev_bad {C:Cx} {R:Rws} {N:List ByteArray} {p:Sp} {a e:Int} (h:(evS C R N p).1 = .bad a e):(e=90∨e=91)∧∃ i,p = .form i∧a=(fmAt C.fs i).at_∧(fmAt C.fs i).kind≠0:=by
  have hql:∀ {R:Rws} {a':Int} {l:List Nat},quoL R a' l≠.bad a e:=by
    intro R a' l;cases l <;> simp [quoL]
  have hq:∀ {a':Int} {i:Nat},(quo C.ns R N a' i).1≠.bad a e:=by
    intro a' i;unfold quo;split
    · simp
    split
    · simp
    split
    · simp
    · exact hql
  have hno:∀ s,noName s=90∨noName s=91:=by
    intro s;unfold noName;split <;> simp
  cases p with
  | qd a' i=>exact absurd h hq
  | ql a' l=>exact absurd h hql
  | form i =>
    simp only [evS] at h
    obtain ⟨f,hf⟩:∃ f,fmAt C.fs i=f:=⟨_,rfl⟩
    rw [hf] at h;have goal:(e=90∨e=91)∧a=f.at_∧f.kind≠0:=by
      unfold evF at h;split at h
      · cases h
      split at h
      · cases h
      split at h
      · exact absurd h hq
      split at h
      · rename_i h4;unfold nameP at h;split at h
        · cases h
        · split at h
          · cases h
          · injection h with h1 h2;exact ⟨by rw [← h2];exact hno _,h1.symm,by omega⟩
      split at h
      · cases h
      split at h
      · rename_i h7;unfold setP' at h;split at h
        · cases h
        · split at h
          · cases h
          · injection h with h1 h2;exact ⟨by rw [← h2];exact hno _,h1.symm,by omega⟩
      split at h
      · rename_i h9;unfold defP at h;split at h
        · injection h with h1 h2;exact ⟨.inl h2.symm,h1.symm,by omega⟩
        · cases h
      split at h
      · rename_i h10;simp only [callP] at h
        split at h
        · split at h
          · injection h with h1 h2;exact ⟨.inl h2.symm,h1.symm,by omega⟩
          · cases h
        · cases h
      · cases h
    exact ⟨goal.1,i,rfl,by rw [hf];exact goal.2.1,by rw [hf];exact goal.2.2⟩
def AtF (C:Cx) (a:Int):Prop:=∃ i,a=(fmAt C.fs i).at_∧(fmAt C.fs i).kind≠0
theorem ex_bad {C:Cx} (h:Fw C):∀ (f:Nat) (p:Sp),wgt C p≤f→∀ R N row x,ex C f R p N row = .error x→(x.2.1=90∨x.2.1=91)∧AtF C x.1:=by
  intro f;induction f with
  | zero=>intro p hp;have:=wgt_pos C p;omega
  | succ f ih =>
    intro p hp R N row x hx;have hw:=ev_wg h R N p;have hb:=@ev_bad C R N p;rw [ex] at hx;generalize evS C R N p=y at hw hb hx;obtain ⟨pl,N1⟩:=y;cases pl with
    | bad a e =>
      simp only [onS] at hx
      injection hx with hx;subst hx;obtain ⟨h1,i,_,h2,h3⟩:=hb rfl;exact ⟨h1,i,h2,h3⟩
    | mk fm R1 ps =>
      simp only [wgn] at hw
      simp only [onS] at hx
      have hps:∀ (ps:List Sp),wgts C ps≤f→∀ N row l x,execs (ex C f R1) ps N row l = .error x→(x.2.1=90∨x.2.1=91)∧AtF C x.1:=by
        intro ps;induction ps with
        | nil=>intro _ N row l x hx;cases hx
        | cons q ps ihp =>
          intro h1 N row l x hx;rw [wgts_cons] at h1;unfold execs at hx;split at hx
          · rename_i e he;injection hx with hx;subst hx;exact ih q (by omega) _ _ _ _ he
          · exact ihp (by omega) _ _ _ _ hx
      split at hx
      · rename_i e he;injection hx with hx;subst hx;exact hps ps (by omega) _ _ _ _ he
      · cases hx
theorem sx_bad {C:Cx} (h:Fw C) {p:Sp} {R:Rws} {N:List ByteArray} {row:List Rf} {x:Er} (hx:sx C R p N row = .error x):(x.2.1=90∨x.2.1=91)∧AtF C x.1:=ex_bad h _ p (Nat.le_refl _) _ _ _ _ hx
theorem tops_bad {C:Cx} (h:Fw C):∀ (ts:List Nat) (N:List ByteArray) (row:List Rf) (t:List Nat) (x:Er),tops C ts N row t = .error x→(x.2.1=90∨x.2.1=91)∧AtF C x.1:=by
  intro ts;induction ts with
  | nil=>intro N row t x hx;cases hx
  | cons i ts ih =>
    intro N row t x hx;rw [tops] at hx;split at hx
    · rename_i e he;injection hx with hx;subst hx;exact sx_bad h he
    · exact ih _ _ _ _ hx
end SC
end Go.Proofs.YtodjaabcjojlkaaDoor
namespace Go.Proofs.YtodjaabcjojlkaaDoor
namespace SC
open LX RX SX EX
abbrev Su:=List ByteArray × List Rf
def thn {α β:Type} (X:Except Er α) (R:α→Except Er β):Except Er β:=match X with
  | .error a=>.error a
  | .ok x=>R x
def sq (C:Cx) (R:Rws) (p:Sp) (s:Su):Except Er (Su × Nat):=thn (sx C R p s.1 s.2) fun y=>.ok ((y.1,y.2.1),y.2.2)
def runsS (Q:Sp→Su→Except Er (Su × Nat)):List Sp→Su→List Nat→Except Er (Su × List Nat)
  | [],s,l=>.ok (s,l)
  | p::ps,s,l=>thn (Q p s) fun y=>runsS Q ps y.1 (l++[y.2])
def onQ (C:Cx) (y:Sn × List ByteArray) (row:List Rf):Except Er (Su × Nat):=match y.1 with
  | .bad a e=>.error (a,e,y.2)
  | .mk f R ps=>thn (runsS (sq C R) ps (y.2,row) []) fun z=>.ok ((z.1.1,z.1.2++[{ f with l:=z.2 }]),z.1.2.length)
theorem runs_execs (C:Cx) (R:Rws):∀ (ps:List Sp) (N:List ByteArray) (row:List Rf) (l:List Nat),runsS (sq C R) ps (N,row) l=thn (execs (sx C R) ps N row l) fun y=>.ok ((y.1,y.2.1),y.2.2):=by
  intro ps;induction ps with
  | nil=>intro N row l;rfl
  | cons p ps ih =>
    intro N row l;rw [execs_cons];unfold runsS sq;cases sx C R p N row with
    | error e=>rfl
    | ok y=>obtain ⟨N',row',i⟩:=y;exact ih N' row' (l++[i])
theorem sq_eq {C:Cx} (h:Fw C) (R:Rws) (p:Sp) (s:Su):sq C R p s=onQ C (evS C R s.1 p) s.2:=by
  unfold sq;rw [sx_eq h];generalize evS C R s.1 p=y;obtain ⟨pl,N1⟩:=y;cases pl with
  | bad a e=>rfl
  | mk f R1 ps =>
    simp only [onS,onQ,runs_execs]
    cases execs (sx C R1) ps N1 s.2 [] with
    | error e=>rfl
    | ok y=>rfl
theorem tops_runs (C:Cx):∀ (ts:List Nat) (N:List ByteArray) (row:List Rf) (t:List Nat),tops C ts N row t=thn (runsS (sq C []) (ts.map .form) (N,row) t) fun y=>.ok (y.1.1,y.1.2,y.2):=by
  intro ts;induction ts with
  | nil=>intro N row t;rfl
  | cons i ts ih =>
    intro N row t;rw [tops,List.map_cons];unfold runsS sq;cases sx C [] (.form i) N row with
    | error e=>rfl
    | ok y=>obtain ⟨N',row',k⟩:=y;exact ih N' row' (t++[k])
theorem runsS_cons (Q:Sp→Su→Except Er (Su × Nat)) (p:Sp) (ps:List Sp) (s:Su) (l:List Nat):runsS Q (p::ps) s l=thn (Q p s) fun y=>runsS Q ps y.1 (l++[y.2]):=rfl
end SC
end Go.Proofs.YtodjaabcjojlkaaDoor
namespace Go.Proofs.YtodjaabcjojlkaaDoor
namespace SC
open LX RX SX EX
theorem fms_of {s:ByteArray} {r:Rd} {fs:List Fm} {ts:List Nat} (hR:read s = .ok r) (h:expand r.row r.tops = .ok (fs,ts)):SM.Fms fs ts r.row.length:=by
  have hF:=forms_of hR h;refine ⟨fun k hk=>(hF.made k hk).1.kind,fun k hk p hp=>by have:=((hF.made k hk).2 p hp).1;simpa using this,fun k hk h3=>hF.quo _ (List.getElem_mem hk) h3,?_,fun t ht=>?_⟩
  · have hperm:(fs.flatMap (·.l)++ts).Perm (List.range fs.length):=by
      rw [List.perm_iff_count];intro a;have h1:=hF.one a;rw [List.count_append];unfold EX.cnt at h1;rw [h1,List.nodup_range.count];simp
    exact hperm.nodup_iff.2 List.nodup_range
  · have h1:=hF.one t;have h2:=List.count_pos_iff.2 ht;by_cases hl:t < fs.length
    · exact hl
    · rw [if_neg hl] at h1;omega
theorem nodup_le3:∀ (n:Nat) (l:List Nat),l.Nodup→(∀ a∈l,a < n)→l.length≤n:=by
  intro n;induction n with
  | zero=>intro l _ h;cases l with
    | nil=>exact Nat.le_refl _
    | cons a l=>have:=h a (List.mem_cons_self ..);omega
  | succ n ih =>
    intro l hn h;have h1:=ih (l.erase n) (hn.erase n) (fun a ha=>by
      have h2:=(hn.mem_erase_iff).1 ha;have:=h a h2.2;have:=h2.1;omega)
    by_cases hm:n∈l
    · rw [List.length_erase_of_mem hm] at h1;omega
    · rw [List.erase_of_not_mem hm] at h1;omega
theorem fms_small {fs:List Fm} {ts:List Nat} {D:Nat} (G:SM.Fms fs ts D):∀ x∈fs,x.l.length≤fs.length:=by
  intro x hx;obtain ⟨k,hk,rfl⟩:=List.getElem_of_mem hx;have h1:=(List.nodup_append.1 (SM.nd_front G.nd k hk)).2.1;exact Nat.le_trans (nodup_le3 k _ h1 (G.lt k hk)) (by omega)
theorem fms_nil (D:Nat):SM.Fms [] [] D:=⟨fun k hk=>absurd hk (by simp),fun k hk=>absurd hk (by simp),fun k hk=>absurd hk (by simp),by simp,fun t ht=>by cases ht⟩
theorem fm_nil (i:Nat):fmAt [] i=fm0:=by simp [fmAt]
theorem gd_nil {s:ByteArray} {r:Rd} (hR:read s = .ok r) (hs:s.size≤1000):Gd (cx r.row []) (r.row.map (·.s)):=by
  have hok:=read_ok_data hR;have hN:=read_names hR;have h3:∀ i,(ndAt r.row i).kind=3→PK (r.row.map (·.s)) (ndAt r.row i).s:=fun i hk=>by
    by_cases hi:i < r.row.length
    · rw [nd_in hi] at hk ⊢;exact ⟨(hN _ (List.getElem_mem hi)).1 hk,List.mem_map.2 ⟨_,List.getElem_mem hi,rfl⟩⟩
    · rw [nd_out hi] at hk;exact absurd hk (by decide)
  have h1:∀ i,(ndAt r.row i).kind=1→inRP (ndAt r.row i).n:=fun i hk=>by
    by_cases hi:i < r.row.length
    · rw [nd_in hi] at hk ⊢;exact (hN _ (List.getElem_mem hi)).2.1 hk
    · rw [nd_out hi] at hk;exact absurd hk (by decide)
  refine ⟨⟨hok,fun i p hp=>?_⟩,fun i hi=>absurd hi (by simp [cx]),fun i hi=>absurd hi (by simp [cx]),fun i hi=>absurd hi (by simp [cx]),fun i hk=>?_,h1,h3,?_,rfl⟩
  · rw [show fmAt (cx r.row []).fs i=fm0 from fm_nil i] at hp;cases hp
  · rw [show fmAt (cx r.row []).fs i=fm0 from fm_nil i] at hk;exact absurd hk (by decide)
  · rw [List.length_map];have:=read_len hR;omega
theorem gd_none:Gd (cx [] []) []:=by
  have hnd:∀ i,ndAt [] i=ndAt [] 0:=fun i=>by simp [ndAt]
  refine ⟨⟨⟨(fun x hx=>absurd hx (by simp [cx])),(fun x hx=>absurd hx (by simp [cx])),(fun i hi=>absurd hi (by simp [cx])),(fun i hi=>absurd hi (by simp [cx])),(fun i hi=>absurd hi (by simp [cx]))⟩,fun i p hp=>?_⟩,fun i hi=>absurd hi (by simp [cx]),fun i hi=>absurd hi (by simp [cx]),fun i hi=>absurd hi (by simp [cx]),fun i hk=>?_,fun i hk=>?_,fun i hk=>?_,by simp,rfl⟩
  · rw [show fmAt (cx [] []).fs i=fm0 from fm_nil i] at hp;cases hp
  · rw [show fmAt (cx [] []).fs i=fm0 from fm_nil i] at hk;exact absurd hk (by decide)
  · rw [show ndAt (cx [] []).ns i=ndAt [] 0 from hnd i] at hk;exact absurd hk (by decide)
  · rw [show ndAt (cx [] []).ns i=ndAt [] 0 from hnd i] at hk;exact absurd hk (by decide)
def ofS (s:ByteArray):Except Er (List ByteArray × List Rf × List Nat):=match RX.read s with
  | .error _=>.ok ([],[],[])
  | .ok r=>match EX.expand r.row r.tops with
    | .error _=>.ok ([],[],[])
    | .ok x=>scope r.row x.1 x.2
end SC
end Go.Proofs.YtodjaabcjojlkaaDoor
namespace Go.Proofs.YtodjaabcjojlkaaDoor
namespace SC
open LX RX SX EX
inductive Parts (Q:Sp→Su→Su→Nat→Prop):List Sp→Su→Su→List Nat→Prop
  | nil (s:Su):Parts Q [] s s []
  | cons {p:Sp} {ps:List Sp} {s s1 s2:Su} {i:Nat} {l:List Nat}:Q p s s1 i→Parts Q ps s1 s2 l→Parts Q (p::ps) s s2 (i::l)
theorem Parts.len {Q:Sp→Su→Su→Nat→Prop} {ps:List Sp} {s s':Su} {l:List Nat} (h:Parts Q ps s s' l):l.length=ps.length:=by
  induction h with
  | nil s=>rfl
  | cons _ _ ih=>simp [ih]
theorem runs_parts {K:List ByteArray} {Q:Sp→Su→Su→Nat→Prop} {F:Sp→Su→Except Er (Su × Nat)}:∀ (ps:List Sp),(∀ p∈ps,∀ s s' i,Nk K s.1→F p s = .ok (s',i)→Q p s s' i∧Nk K s'.1)→∀ (s s':Su) (l0 l:List Nat),Nk K s.1→runsS F ps s l0 = .ok (s',l) →
    ∃ l1,l=l0++l1∧Parts Q ps s s' l1∧Nk K s'.1:=by
  intro ps;induction ps with
  | nil =>
    intro _ s s' l0 l hN h;injection h with h;injection h with h1 h2;subst h1 h2;exact ⟨[],by simp,.nil s,hN⟩
  | cons p ps ih =>
    intro hF s s' l0 l hN h;rw [runsS_cons] at h;cases hp:F p s with
    | error e=>rw [hp] at h;cases h
    | ok y =>
      obtain ⟨s1,i⟩:=y;rw [hp] at h;obtain ⟨h1,h2⟩:=hF p (List.mem_cons_self ..) s s1 i hN hp;obtain ⟨l1,e,h3,h4⟩:=ih (fun q hq=>hF q (List.mem_cons_of_mem _ hq)) s1 s' (l0++[i]) l h2 h;exact ⟨i::l1,by rw [e];simp,.cons h1 h3,h4⟩
theorem sq_ind {K:List ByteArray} {C:Cx} (h:Gd C K) {P:Rws→Sp→Su→Su→Nat→Prop}
    (step:∀ R p (s:Su) f R' ps N' (s':Su) l,Nk K s.1→ThS C p→evS C R s.1 p=(.mk f R' ps,N')→Nk K N'→Parts (P R') ps (N',s.2) s' l→P R p s (s'.1,s'.2++[{ f with l:=l }]) s'.2.length) :
    ∀ (m:Nat) (p:Sp),wgt C p≤m→ThS C p→∀ R (s s':Su) i,Nk K s.1→sq C R p s = .ok (s',i)→P R p s s' i∧Nk K s'.1:=by
  intro m;induction m with
  | zero=>intro p hp;have:=wgt_pos C p;omega
  | succ m ih =>
    intro p hp ht R s s' i hN hs;have hw:=ev_wg h.fw R s.1 p;have hnk:=ev_nk h hN R p ht;have hth:=fun f R' ps N' (e:evS C R s.1 p=(.mk f R' ps,N'))=>ev_th h ht e
    have hst:=fun f R' ps N' (s':Su) l (e:evS C R s.1 p=(.mk f R' ps,N'))=>step R p s f R' ps N' s' l hN ht e
    rw [sq_eq h.fw] at hs;generalize evS C R s.1 p=y at *;obtain ⟨pl,N1⟩:=y;cases pl with
    | bad a e=>cases hs
    | mk f R1 ps =>
      simp only [wgn] at hw
      simp only [onQ] at hs
      cases hr:runsS (sq C R1) ps (N1,s.2) [] with
      | error e=>rw [hr] at hs;cases hs
      | ok z =>
        obtain ⟨s1,l⟩:=z;rw [hr] at hs;injection hs with hs;injection hs with h1 h2;subst h1 h2;obtain ⟨l1,e,h3,h4⟩:=runs_parts (K:=K) (Q:=P R1) ps (fun q hq s s' i hN hs=>ih q (by have:=wgts_mem (C:=C) hq;omega) (hth _ _ _ _ rfl q hq) R1 s s' i hN hs) (N1,s.2) s1 [] l hnk hr;rw [List.nil_append] at e;subst e;exact ⟨hst _ _ _ _ _ _ rfl hnk h3,h4⟩
theorem tops_ind {K:List ByteArray} {C:Cx} (h:Gd C K) {P:Rws→Sp→Su→Su→Nat→Prop}
    (step:∀ R p (s:Su) f R' ps N' (s':Su) l,Nk K s.1→ThS C p→evS C R s.1 p=(.mk f R' ps,N')→Nk K N'→Parts (P R') ps (N',s.2) s' l→P R p s (s'.1,s'.2++[{ f with l:=l }]) s'.2.length) {ts:List Nat} (ht:∀ t∈ts,t < C.fs.length)
    {N:List ByteArray} {row:List Rf} {l:List Nat} (hx:tops C ts [] [] [] = .ok (N,row,l)):Parts (P []) (ts.map .form) ([],[]) (N,row) l∧Nk K N:=by
  rw [tops_runs] at hx;cases hr:runsS (sq C []) (ts.map .form) ([],[]) [] with
  | error e=>rw [hr] at hx;cases hx
  | ok z =>
    obtain ⟨s1,l1⟩:=z;rw [hr] at hx;injection hx with hx;injection hx with h1 hx;injection hx with h2 h3;obtain ⟨l2,e,h4,h5⟩:=runs_parts (K:=K) (Q:=P []) (ts.map .form) (fun q hq s s' i hN hs=>sq_ind h step _ q (Nat.le_refl _) (forms_th ht q hq) [] s s' i hN hs) ([],[]) s1 [] l1 (Nk.nil K) hr;rw [List.nil_append] at e;subst e h3;have:s1=(N,row):=by rw [← h1,← h2]
    rw [this] at h4 h5;exact ⟨h4,h5⟩
def InR (R:Rws) (a n:Int):Prop:=∃ (k j:Nat) (r:List ByteArray),a=k∧n=j∧R[k]? = some r∧j < r.length
structure Shp (N':List ByteArray) (R:Rws) (f:Rf) (R':Rws) (m:Nat):Prop where
  l:f.l=[]
  at0:0≤f.at_
  r6:f.kind≠6→R'=R
  kinds:(f.kind=13∧m=0∧(f.n=0∧f.a=0)∧(f.w=2∨(∃ n,WP.inR n=true∧f.w=WP.intW n)∨(∃ b,f.w=WP.boolW b)∨∃ n,WP.ofB 3 n=true∧f.w=WP.ofW 3 n))∨(f.kind=11∧m=0∧InR R f.a f.n)∨(f.kind=4∧m=0∧0≤f.n∧f.n < N'.length) ∨
    (f.kind=6∧m=1∧∃ r,R'=r::R∧f.n=r.length∧r.length≤100)∨(f.kind=7∧m=1∧(InR R f.a f.n∨f.a = -1∧0≤f.n∧f.n < N'.length))∨(f.kind=9∧m=1∧0≤f.n∧f.n < N'.length) ∨
    (f.kind=12∧1≤f.n∧f.n≤30∧m=primM.getD (f.n.toNat - 1) 0)∨(f.kind=10∧1≤m)∨(f.kind=5∧m=3)∨(f.kind=8∧2≤m)
theorem wher_in:∀ {R:Rws} {s:ByteArray} {a n:Nat},wher R s=some (a,n)→InR R a n:=by
  intro R;induction R with
  | nil=>intro s a n h;cases h
  | cons r R ih =>
    intro s a n h;unfold wher at h;split at h
    · rename_i hm;injection h with h;injection h with h1 h2;subst h1 h2;exact ⟨0,_,r,rfl,rfl,rfl,List.idxOf_lt_length_iff.2 hm⟩
    · cases hw:wher R s with
      | none=>rw [hw] at h;cases h
      | some x =>
        obtain ⟨a1,n1⟩:=x;rw [hw] at h;injection h with h;injection h with h1 h2;subst h1 h2;obtain ⟨k,j,r1,e1,e2,e3,e4⟩:=ih hw;exact ⟨k+1,j,r1,by omega,e2,e3,e4⟩
theorem putI_lt {K N:List ByteArray} (h:Nk K N) (hK:K.length≤4096) {s:ByteArray} (hs:PK K s):NP.putI N s < (NP.putL N s).length:=by
  obtain ⟨h1,h2⟩:=hs;have hroom:s∉N→N.length < 4096:=fun hn=>by
    have:=sub_len (s::N) K (List.nodup_cons.2 ⟨hn,h.ok.nd⟩) (fun x hx=>(List.mem_cons.1 hx).elim (fun e=>e ▸ h2) (h.sub x));rw [List.length_cons] at this;omega
  unfold NP.putI NP.putL;rw [if_neg (fun c=>c h1)];by_cases hm:s∈N
  · rw [if_pos hm,if_neg (fun c=>c.2.1 hm)];have:=List.idxOf_lt_length_iff.2 hm;omega
  · rw [if_neg hm,if_pos (hroom hm),if_pos ⟨h1,hm,hroom hm⟩,List.length_append,List.length_singleton];omega
theorem quoL_shp {N':List ByteArray} {R R':Rws} {a:Int} {l:List Nat} {f:Rf} {ps:List Sp} (ha:0≤a) (e:quoL R a l = .mk f R' ps):Shp N' R f R' ps.length:=by
  cases l with
  | nil =>
    simp only [quoL,Sn.mk.injEq] at e
    obtain ⟨rfl,rfl,rfl⟩:=e;exact ⟨rfl,ha,fun _=>rfl,.inl ⟨rfl,rfl,⟨rfl,rfl⟩,.inl rfl⟩⟩
  | cons i l =>
    simp only [quoL,Sn.mk.injEq] at e
    obtain ⟨rfl,rfl,rfl⟩:=e;exact ⟨rfl,ha,fun _=>rfl,.inr (.inr (.inr (.inr (.inr (.inr (.inl ⟨rfl,by show (1:Int)≤12;omega,by show (12:Int)≤30;omega,rfl⟩))))))⟩
theorem quo_shp {K N N':List ByteArray} {C:Cx} (h:Gd C K) (hN:Nk K N) {R R':Rws} {a:Int} {i:Nat} {f:Rf} {ps:List Sp} (ha:0≤a) (e:quo C.ns R N a i=(.mk f R' ps,N')):Shp N' R f R' ps.length:=by
  unfold quo at e;split at e
  · rename_i h1;simp only [Prod.mk.injEq,Sn.mk.injEq] at e
    obtain ⟨⟨rfl,rfl,rfl⟩,rfl⟩:=e;exact ⟨rfl,ha,fun _=>rfl,.inl ⟨rfl,rfl,⟨rfl,rfl⟩,.inr (.inl ⟨_,h.datI i h1,rfl⟩)⟩⟩
  split at e
  · simp only [Prod.mk.injEq,Sn.mk.injEq] at e
    obtain ⟨⟨rfl,rfl,rfl⟩,rfl⟩:=e;exact ⟨rfl,ha,fun _=>rfl,.inl ⟨rfl,rfl,⟨rfl,rfl⟩,.inr (.inr (.inl ⟨_,rfl⟩))⟩⟩
  split at e
  · rename_i h3;simp only [Prod.mk.injEq,Sn.mk.injEq] at e
    obtain ⟨⟨rfl,rfl,rfl⟩,rfl⟩:=e;obtain ⟨_,_,p0,p1,_⟩:=hN.put h.few (h.datN i h3);exact ⟨rfl,ha,fun _=>rfl,.inl ⟨rfl,rfl,⟨rfl,rfl⟩,.inr (.inr (.inr ⟨_,ofB_num p0 p1,rfl⟩))⟩⟩
  · simp only [Prod.mk.injEq] at e
    exact quoL_shp ha e.1
theorem prim_of {s:ByteArray} (h:isPrim s=true):1≤primO s∧primO s≤30∧primK s=primM.getD (primO s - 1) 0:=by
  have hm:s∈primN:=of_decide_eq_true h;have hl:=List.idxOf_lt_length_iff.2 hm;have h30:primN.length=30:=rfl;unfold primO primK;rw [if_pos hm,if_pos hm];exact ⟨by omega,by omega,by simp⟩
theorem ev_shp {K N N':List ByteArray} {C:Cx} (h:Gd C K) (hN:Nk K N) {R R':Rws} {p:Sp} {f:Rf} {ps:List Sp} (hp:ThS C p) (e:evS C R N p=(.mk f R' ps,N')):Shp N' R f R' ps.length:=by
  cases p with
  | qd a i=>exact quo_shp h hN hp.1 e
  | ql a l =>
    simp only [evS,Prod.mk.injEq] at e
    exact quoL_shp hp.1 e.1
  | form i =>
    have hi:i < C.fs.length:=hp;have hform:=h.form i hi;have hat:=h.at_ i hi;have hnm:=h.nm i hi;have hown:=fun s (hs:s∈C.own)=>h.ownP hs
    simp only [evS] at e
    generalize fmAt C.fs i=g at *;have hk:=hform.kind;have fin:∀ {x:Rf} {R1:Rws} {qs:List Sp} {M:List ByteArray},((.mk x R1 qs,M):Sn × List ByteArray)=(.mk f R' ps,N')→Shp M R x R1 qs.length→Shp N' R f R' ps.length:=by
      intro x R1 qs M e h;simp only [Prod.mk.injEq,Sn.mk.injEq] at e
      obtain ⟨⟨rfl,rfl,rfl⟩,rfl⟩:=e;exact h
    have hml:(g.l.map Sp.form).length=g.l.length:=List.length_map ..;unfold evF at e;split at e
    · rename_i h1;exact fin e ⟨rfl,hat,fun _=>rfl,.inl ⟨rfl,rfl,⟨rfl,rfl⟩,.inr (.inl ⟨_,hnm.1 h1,rfl⟩)⟩⟩
    split at e
    · exact fin e ⟨rfl,hat,fun _=>rfl,.inl ⟨rfl,rfl,⟨rfl,rfl⟩,.inr (.inr (.inl ⟨_,rfl⟩))⟩⟩
    split at e
    · exact quo_shp h hN hat e
    split at e
    · unfold nameP at e;split at e
      · rename_i a n hw;exact fin e ⟨rfl,hat,fun _=>rfl,.inr (.inl ⟨rfl,rfl,wher_in hw⟩)⟩
      · split at e
        · rename_i ho;obtain ⟨_,_,p0,p1,_⟩:=hN.put h.few (hown _ ho);exact fin e ⟨rfl,hat,fun _=>rfl,.inr (.inr (.inl ⟨rfl,rfl,p0,putI_lt hN h.few (hown _ ho)⟩))⟩
        · cases e
    split at e
    · rename_i h6;have h1:g.l.length=1:=by rcases hk with ⟨h,_⟩ | ⟨h,_⟩ | ⟨_,h⟩ | ⟨h,_⟩ | ⟨h,_⟩ <;> first | exact h | omega
      exact fin e ⟨rfl,hat,fun h=>absurd rfl h,.inr (.inr (.inr (.inl ⟨rfl,by rw [hml,h1],g.p,rfl,rfl,hform.names.few⟩)))⟩
    split at e
    · rename_i h7;have h1:g.l.length=1:=by rcases hk with ⟨h,_⟩ | ⟨h,_⟩ | ⟨_,h⟩ | ⟨h,_⟩ | ⟨h,_⟩ <;> first | exact h | omega
      unfold setP' at e;split at e
      · rename_i a n hw;exact fin e ⟨rfl,hat,fun _=>rfl,.inr (.inr (.inr (.inr (.inl ⟨rfl,by rw [hml,h1],.inl (wher_in hw)⟩))))⟩
      · split at e
        · rename_i ho;obtain ⟨_,_,p0,p1,_⟩:=hN.put h.few (hown _ ho);exact fin e ⟨rfl,hat,fun _=>rfl,.inr (.inr (.inr (.inr (.inl ⟨rfl,by rw [hml,h1],.inr ⟨rfl,p0,putI_lt hN h.few (hown _ ho)⟩⟩))))⟩
        · cases e
    split at e
    · rename_i h9;have h1:g.l.length=1:=by rcases hk with ⟨h,_⟩ | ⟨h,_⟩ | ⟨_,h⟩ | ⟨h,_⟩ | ⟨h,_⟩ <;> first | exact h | omega
      unfold defP at e;split at e
      · cases e
      · obtain ⟨_,_,p0,p1,_⟩:=hN.put h.few (hnm.2.2.1 h9);exact fin e ⟨rfl,hat,fun _=>rfl,.inr (.inr (.inr (.inr (.inr (.inl ⟨rfl,by rw [hml,h1],p0,putI_lt hN h.few (hnm.2.2.1 h9)⟩)))))⟩
    split at e
    · rename_i h10;have h1:1≤g.l.length:=by rcases hk with ⟨h,_⟩ | ⟨h,_⟩ | ⟨h,_⟩ | ⟨h,_⟩ | ⟨_,h⟩ <;> first | exact h | omega
      unfold callP at e;split at e
      · rename_i hc;split at e
        · cases e
        · rename_i hlen;have hpr:isPrim (fmAt C.fs (g.l.getD 0 0)).s=true:=by
            unfold callsPrim at hc;simp only [Bool.and_eq_true] at hc
            exact hc.2
          obtain ⟨q1,q2,q3⟩:=prim_of hpr;refine fin e ⟨rfl,hat,fun _=>rfl,.inr (.inr (.inr (.inr (.inr (.inr (.inl ⟨rfl,by simp only;omega,by simp only;omega,?_⟩))))))⟩
          simp only [List.length_map,List.length_drop,Int.toNat_natCast]
          rw [← q3];omega
      · exact fin e ⟨rfl,hat,fun _=>rfl,.inr (.inr (.inr (.inr (.inr (.inr (.inr (.inl ⟨rfl,by rw [hml];exact h1⟩)))))))⟩
    · rename_i n1 n2 n3 n4 n6 n7 n9 n10;refine fin e ⟨rfl,hat,fun _=>rfl,.inr (.inr (.inr (.inr (.inr (.inr (.inr (.inr ?_)))))))⟩
      rw [hml];simp only
      rcases hk with ⟨h,_⟩ | ⟨h,h2⟩ | ⟨h,_⟩ | ⟨h,h2⟩ | ⟨h,_⟩
      · omega
      · exact .inl ⟨h,h2⟩
      · omega
      · exact .inr ⟨h,h2⟩
      · omega
end SC
end Go.Proofs.YtodjaabcjojlkaaDoor
