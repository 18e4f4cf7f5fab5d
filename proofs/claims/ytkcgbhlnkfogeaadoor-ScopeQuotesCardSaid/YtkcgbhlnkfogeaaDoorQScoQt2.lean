/-
  Several texts in one: ScoBad,ScoTx,ScoQt1,ScoQt2.
-/
import Derived.Test.YtkcgbhlnkfogeaaDoorQScoGd
import Derived.Test.YtkcgbhlnkfogeaaDoorQScoS2
import Derived.Test.YtkcgbhlnkfogeaaDoorQShowBackP
namespace Go.Proofs.YtkcgbhlnkfogeaaDoor
namespace SC
open LX RX SX EX
theorem ev_bad {C:Cx} {R:Rws} {N:List ByteArray} {p:Sp} {a e:Int} (h:(evS C R N p).1 = .bad a e):(e=90∨e=91)∧∃ i,p = .form i∧a=(fmAt C.fs i).at_∧(fmAt C.fs i).kind≠0:=by
  have hql:∀ {R:Rws} {a':Int} {l:List Nat},quoL R a' l≠.bad a e:=by
    intro R a' l;cases l <;> simp [quoL]
  have hq:∀ {a':Int} {i:Nat},(quo C.ns R N a' i).1≠.bad a e:=by
    intro a' i;unfold quo;split
    · simp
    split
    · simp
    split
    · simp
    · exact hql
  have hno:∀ s,noName s=90∨noName s=91:=by
    intro s;unfold noName;split <;> simp
  cases p with
  | qd a' i=>exact absurd h hq
  | ql a' l=>exact absurd h hql
  | form i =>
    simp only [evS] at h
    obtain ⟨f,hf⟩:∃ f,fmAt C.fs i=f:=⟨_,rfl⟩
    rw [hf] at h;have goal:(e=90∨e=91)∧a=f.at_∧f.kind≠0:=by
      unfold evF at h;split at h
      · cases h
      split at h
      · cases h
      split at h
      · exact absurd h hq
      split at h
      · rename_i h4;unfold nameP at h;split at h
        · cases h
        · split at h
          · cases h
          · injection h with h1 h2;exact ⟨by rw [← h2];exact hno _,h1.symm,by omega⟩
      split at h
      · cases h
      split at h
      · rename_i h7;unfold setP' at h;split at h
        · cases h
        · split at h
          · cases h
          · injection h with h1 h2;exact ⟨by rw [← h2];exact hno _,h1.symm,by omega⟩
      split at h
      · rename_i h9;unfold defP at h;split at h
        · injection h with h1 h2;exact ⟨.inl h2.symm,h1.symm,by omega⟩
        · cases h
      split at h
      · rename_i h10;simp only [callP] at h
        split at h
        · split at h
          · injection h with h1 h2;exact ⟨.inl h2.symm,h1.symm,by omega⟩
          · cases h
        · cases h
      · cases h
    exact ⟨goal.1,i,rfl,by rw [hf];exact goal.2.1,by rw [hf];exact goal.2.2⟩
def AtF (C:Cx) (a:Int):Prop:=∃ i,a=(fmAt C.fs i).at_∧(fmAt C.fs i).kind≠0
theorem ex_bad {C:Cx} (h:Fw C):∀ (f:Nat) (p:Sp),wgt C p≤f→∀ R N row x,ex C f R p N row = .error x→(x.2.1=90∨x.2.1=91)∧AtF C x.1:=by
  intro f;induction f with
  | zero=>intro p hp;have:=wgt_pos C p;omega
  | succ f ih =>
    intro p hp R N row x hx;have hw:=ev_wg h R N p;have hb:=@ev_bad C R N p;rw [ex] at hx;generalize evS C R N p=y at hw hb hx;obtain ⟨pl,N1⟩:=y;cases pl with
    | bad a e =>
      simp only [onS] at hx
      injection hx with hx;subst hx;obtain ⟨h1,i,_,h2,h3⟩:=hb rfl;exact ⟨h1,i,h2,h3⟩
    | mk fm R1 ps =>
      simp only [wgn] at hw
      simp only [onS] at hx
      have hps:∀ (ps:List Sp),wgts C ps≤f→∀ N row l x,execs (ex C f R1) ps N row l = .error x→(x.2.1=90∨x.2.1=91)∧AtF C x.1:=by
        intro ps;induction ps with
        | nil=>intro _ N row l x hx;cases hx
        | cons q ps ihp =>
          intro h1 N row l x hx;rw [wgts_cons] at h1;unfold execs at hx;split at hx
          · rename_i e he;injection hx with hx;subst hx;exact ih q (by omega) _ _ _ _ he
          · exact ihp (by omega) _ _ _ _ hx
      split at hx
      · rename_i e he;injection hx with hx;subst hx;exact hps ps (by omega) _ _ _ _ he
      · cases hx
theorem sx_bad {C:Cx} (h:Fw C) {p:Sp} {R:Rws} {N:List ByteArray} {row:List Rf} {x:Er} (hx:sx C R p N row = .error x):(x.2.1=90∨x.2.1=91)∧AtF C x.1:=ex_bad h _ p (Nat.le_refl _) _ _ _ _ hx
end SC
end Go.Proofs.YtkcgbhlnkfogeaaDoor
namespace Go.Proofs.YtkcgbhlnkfogeaaDoor
namespace SC
open LX RX SX EX
theorem fms_of {s:ByteArray} {r:Rd} {fs:List Fm} {ts:List Nat} (hR:read s = .ok r) (h:expand r.row r.tops = .ok (fs,ts)):SM.Fms fs ts r.row.length:=by
  have hF:=forms_of hR h;refine ⟨fun k hk=>(hF.made k hk).1.kind,fun k hk p hp=>by have:=((hF.made k hk).2 p hp).1;simpa using this,fun k hk h3=>hF.quo _ (List.getElem_mem hk) h3,?_,fun t ht=>?_⟩
  · have hperm:(fs.flatMap (·.l)++ts).Perm (List.range fs.length):=by
      rw [List.perm_iff_count];intro a;have h1:=hF.one a;rw [List.count_append];unfold EX.cnt at h1;rw [h1,List.nodup_range.count];simp
    exact hperm.nodup_iff.2 List.nodup_range
  · have h1:=hF.one t;have h2:=List.count_pos_iff.2 ht;by_cases hl:t < fs.length
    · exact hl
    · rw [if_neg hl] at h1;omega
theorem nodup_le3:∀ (n:Nat) (l:List Nat),l.Nodup→(∀ a∈l,a < n)→l.length≤n:=by
  intro n;induction n with
  | zero=>intro l _ h;cases l with
    | nil=>exact Nat.le_refl _
    | cons a l=>have:=h a (List.mem_cons_self ..);omega
  | succ n ih =>
    intro l hn h;have h1:=ih (l.erase n) (hn.erase n) (fun a ha=>by
      have h2:=(hn.mem_erase_iff).1 ha;have:=h a h2.2;have:=h2.1;omega)
    by_cases hm:n∈l
    · rw [List.length_erase_of_mem hm] at h1;omega
    · rw [List.erase_of_not_mem hm] at h1;omega
theorem fms_small {fs:List Fm} {ts:List Nat} {D:Nat} (G:SM.Fms fs ts D):∀ x∈fs,x.l.length≤fs.length:=by
  intro x hx;obtain ⟨k,hk,rfl⟩:=List.getElem_of_mem hx;have h1:=(List.nodup_append.1 (SM.nd_front G.nd k hk)).2.1;exact Nat.le_trans (nodup_le3 k _ h1 (G.lt k hk)) (by omega)
theorem fms_nil (D:Nat):SM.Fms [] [] D:=⟨fun k hk=>absurd hk (by simp),fun k hk=>absurd hk (by simp),fun k hk=>absurd hk (by simp),by simp,fun t ht=>by cases ht⟩
theorem fm_nil (i:Nat):fmAt [] i=fm0:=by simp [fmAt]
theorem gd_nil {s:ByteArray} {r:Rd} (hR:read s = .ok r) (hs:s.size≤1000):Gd (cx r.row []) (r.row.map (·.s)):=by
  have hok:=read_ok_data hR;have hN:=read_names hR;have h3:∀ i,(ndAt r.row i).kind=3→PK (r.row.map (·.s)) (ndAt r.row i).s:=fun i hk=>by
    by_cases hi:i < r.row.length
    · rw [nd_in hi] at hk ⊢;exact ⟨(hN _ (List.getElem_mem hi)).1 hk,List.mem_map.2 ⟨_,List.getElem_mem hi,rfl⟩⟩
    · rw [nd_out hi] at hk;exact absurd hk (by decide)
  have h1:∀ i,(ndAt r.row i).kind=1→inRP (ndAt r.row i).n:=fun i hk=>by
    by_cases hi:i < r.row.length
    · rw [nd_in hi] at hk ⊢;exact (hN _ (List.getElem_mem hi)).2.1 hk
    · rw [nd_out hi] at hk;exact absurd hk (by decide)
  refine ⟨⟨hok,fun i p hp=>?_⟩,fun i hi=>absurd hi (by simp [cx]),fun i hi=>absurd hi (by simp [cx]),fun i hi=>absurd hi (by simp [cx]),fun i hk=>?_,h1,h3,?_,rfl⟩
  · rw [show fmAt (cx r.row []).fs i=fm0 from fm_nil i] at hp;cases hp
  · rw [show fmAt (cx r.row []).fs i=fm0 from fm_nil i] at hk;exact absurd hk (by decide)
  · rw [List.length_map];have:=read_len hR;omega
theorem gd_none:Gd (cx [] []) []:=by
  have hnd:∀ i,ndAt [] i=ndAt [] 0:=fun i=>by simp [ndAt]
  refine ⟨⟨⟨(fun x hx=>absurd hx (by simp [cx])),(fun x hx=>absurd hx (by simp [cx])),(fun i hi=>absurd hi (by simp [cx])),(fun i hi=>absurd hi (by simp [cx])),(fun i hi=>absurd hi (by simp [cx]))⟩,fun i p hp=>?_⟩,fun i hi=>absurd hi (by simp [cx]),fun i hi=>absurd hi (by simp [cx]),fun i hi=>absurd hi (by simp [cx]),fun i hk=>?_,fun i hk=>?_,fun i hk=>?_,by simp,rfl⟩
  · rw [show fmAt (cx [] []).fs i=fm0 from fm_nil i] at hp;cases hp
  · rw [show fmAt (cx [] []).fs i=fm0 from fm_nil i] at hk;exact absurd hk (by decide)
  · rw [show ndAt (cx [] []).ns i=ndAt [] 0 from hnd i] at hk;exact absurd hk (by decide)
  · rw [show ndAt (cx [] []).ns i=ndAt [] 0 from hnd i] at hk;exact absurd hk (by decide)
def ofS (s:ByteArray):Except Er (List ByteArray × List Rf × List Nat):=match RX.read s with
  | .error _=>.ok ([],[],[])
  | .ok r=>match EX.expand r.row r.tops with
    | .error _=>.ok ([],[],[])
    | .ok x=>scope r.row x.1 x.2
end SC
end Go.Proofs.YtkcgbhlnkfogeaaDoor
namespace Go.Proofs.YtkcgbhlnkfogeaaDoor
namespace SC
open LX RX SX EX
def isCons (x:Rf):Bool:=decide (x.kind=12) && (decide (x.n=12) && decide (x.l.length=2))
def isCst (x:Rf):Bool:=decide (x.kind=13)
def Qt (l:List Rf) (a b:Nat):Prop:=(∀ x∈l,isCons x=true∨isCst x=true)∧l.countP isCons=a∧l.countP isCst=b
theorem Qt.nil:Qt [] 0 0:=⟨fun x h=>absurd h (by simp),rfl,rfl⟩
theorem Qt.app {l m:List Rf} {a b c d:Nat} (h:Qt l a b) (k:Qt m c d):Qt (l++m) (a+c) (b+d):=by
  refine ⟨fun x hx=>?_,?_,?_⟩
  · rcases List.mem_append.1 hx with hx | hx
    · exact h.1 x hx
    · exact k.1 x hx
  · rw [List.countP_append,h.2.1,k.2.1]
  · rw [List.countP_append,h.2.2,k.2.2]
theorem Qt.cst (a w:Int):Qt [cst a w] 0 1:=⟨fun x hx=>by rw [List.mem_singleton.1 hx];exact .inr rfl,rfl,rfl⟩
theorem Qt.cons (f:Rf) (h:isCons f=true):Qt [f] 1 0:=by
  have h2:isCst f=false:=by
    unfold isCons at h;unfold isCst;simp only [Bool.and_eq_true,decide_eq_true_eq] at h
    rw [decide_eq_false_iff_not];omega
  exact ⟨fun x hx=>by rw [List.mem_singleton.1 hx];exact .inl h,by simp [h],by simp [h2]⟩
def sumT (ns:List Nd) (l:List Nat):Nat:=(l.map (T ns)).sum
theorem sumT_cons (ns:List Nd) (i:Nat) (l:List Nat):sumT ns (i::l)=T ns i+sumT ns l:=by simp [sumT]
theorem ex_quote {C:Cx} (hok:Ok C.ns):∀ (f:Nat) (p:Sp) (R:Rws) (N:List ByteArray) (row:List Rf) (N':List ByteArray) (row':List Rf) (k:Nat),ex C f R p N row = .ok (N',row',k) →
    (∀ a i,p = .qd a i→∃ new,row'=row++new∧Qt new (T C.ns i - 1) (T C.ns i))∧(∀ a l,p = .ql a l→∃ new,row'=row++new∧Qt new (sumT C.ns l) (sumT C.ns l+1)):=by
  intro f;induction f with
  | zero=>intro p R N row N' row' k h;cases h
  | succ f ih =>
    intro p R N row N' row' k h;have hq:∀ (a:Int) (l:List Nat) (N1:List ByteArray),onS (ex C f) (quoL R a l,N1) row = .ok (N',row',k)→∃ new,row'=row++new∧Qt new (sumT C.ns l) (sumT C.ns l+1):=by
      intro a l N1 h;cases l with
      | nil =>
        simp only [quoL,onS,execs] at h
        cases h
        exact ⟨_,rfl,Qt.cst a 2⟩
      | cons i l =>
        simp only [quoL,onS,execs] at h
        cases h1:ex C f R (.qd a i) N1 row with
        | error e=>rw [h1] at h;cases h
        | ok x =>
          obtain ⟨N2,row2,k2⟩:=x;rw [h1] at h;simp only at h
          cases h2:ex C f R (.ql a l) N2 row2 with
          | error e=>rw [h2] at h;cases h
          | ok y =>
            obtain ⟨N3,row3,k3⟩:=y;rw [h2] at h;simp only at h
            cases h
            obtain ⟨n1,rfl,q1⟩:=(ih _ _ _ _ _ _ _ h1).1 a i rfl;obtain ⟨n2,rfl,q2⟩:=(ih _ _ _ _ _ _ _ h2).2 a l rfl;have hT:=T_pos C.ns i;have hq:=(q1.app q2).app (Qt.cons (⟨12,a,12,0,emp,0,[k2,k3]⟩:Rf) rfl);refine ⟨n1++n2++[⟨12,a,12,0,emp,0,[k2,k3]⟩],by simp,?_⟩
            rw [sumT_cons];have e1:T C.ns i - 1+sumT C.ns l+1=T C.ns i+sumT C.ns l:=by omega
            have e2:T C.ns i+(sumT C.ns l+1)+0=T C.ns i+sumT C.ns l+1:=by omega
            rw [e1,e2] at hq;exact hq
    refine ⟨fun a i e=>?_,fun a l e=>?_⟩
    · subst e;have h':onS (ex C f) (quo C.ns R N a i) row = .ok (N',row',k):=h;have hT:=T_kids hok i;have hleaf:(ndAt C.ns i).kind≠4→(ndAt C.ns i).l=[]:=fun hk=>by
        by_cases hi:i < C.ns.length
        · refine hok.leaf _ ?_ hk
          unfold ndAt;rw [List.getD_eq_getElem?_getD,List.getElem?_eq_getElem hi];exact List.getElem_mem hi
        · rw [nd_out hi];rfl
      have h1:(ndAt C.ns i).l=[]→T C.ns i=1:=fun e=>by rw [hT,e];rfl
      unfold quo at h';split at h'
      · next hk =>
        have:=h1 (hleaf (by rw [hk];decide));simp only [onS,execs] at h'
        cases h'
        exact ⟨_,rfl,by rw [this];exact Qt.cst _ _⟩
      · split at h'
        · next hk =>
          have:=h1 (hleaf (by rw [hk];decide));simp only [onS,execs] at h'
          cases h'
          exact ⟨_,rfl,by rw [this];exact Qt.cst _ _⟩
        · split at h'
          · next hk =>
            have:=h1 (hleaf (by rw [hk];decide));simp only [onS,execs] at h'
            cases h'
            exact ⟨_,rfl,by rw [this];exact Qt.cst _ _⟩
          · obtain ⟨new,e,q⟩:=hq a _ N h';refine ⟨new,e,?_⟩
            have e1:T C.ns i - 1=sumT C.ns (ndAt C.ns i).l:=by rw [hT];unfold sumT;omega
            have e2:T C.ns i=sumT C.ns (ndAt C.ns i).l+1:=by rw [hT];unfold sumT;omega
            rw [e1];rw [e2];exact q
    · subst e;exact hq a l N h
theorem sum_perm {f:Nat→Nat} {l m:List Nat} (h:l.Perm m):(l.map f).sum=(m.map f).sum:=(h.map f).sum_nat
theorem sum_flat (f:Nat→Nat) (row:List Nd):((row.flatMap (·.l)).map f).sum=(row.map fun x=>(x.l.map f).sum).sum:=by
  induction row with
  | nil=>rfl
  | cons x row ih=>simp [List.flatMap_cons,List.map_append,List.sum_append,ih]
theorem read_perm {s:ByteArray} {r:Rd} (h:read s = .ok r):(r.row.flatMap (·.l)++r.tops).Perm (List.range r.row.length):=by
  have hI:=(read_inv (P:=fun x=>-9223372036854775808≤x.n∧x.n≤9223372036854775807) (Q:=fun _=>True) (fun _ _ _ _ h=>h) (fun _ _ _=>⟨by show (-9223372036854775808:Int)≤0;omega,by show (0:Int)≤9223372036854775807;omega⟩) h
    (fun _ hl=>brings _ _ hl (fun t hi _ _=>⟨by have:=hi.good.lo;show _≤t.n;omega,by have:=hi.good.hi;show t.n≤_;omega⟩) (fun t hi _=>⟨by have:=hi.good.lo;show _≤t.n;omega,by have:=hi.good.hi;show t.n≤_;omega⟩) (fun _ _ _=>⟨by show (-9223372036854775808:Int)≤0;omega,by show (0:Int)≤9223372036854775807;omega⟩) (fun _ _ _ _ _=>trivial) (fun _ _ _=>⟨fun _ _=>trivial,by show (-9223372036854775808:Int)≤0;omega,by show (0:Int)≤9223372036854775807;omega⟩))).1
  rw [List.perm_iff_count];intro a;have h1:=hI.one a;unfold RX.cnt at h1;rw [List.count_append,List.nodup_range.count];simp only [List.mem_range,List.flatMap_nil,List.count_nil] at h1 ⊢
  omega
theorem row_sum (ns:List Nd) (g:Nd→Nat):(ns.map g).sum=((List.range ns.length).map fun i=>g (ndAt ns i)).sum:=by
  have e:ns=(List.range ns.length).map (ndAt ns):=by
    apply List.ext_getElem
    · simp
    · intro i h1 h2;rw [List.getElem_map,List.getElem_range];unfold ndAt;rw [List.getD_eq_getElem?_getD,List.getElem?_eq_getElem h1];rfl
  have h:(ns.map g)=(List.range ns.length).map fun i=>g (ndAt ns i):=by
    conv=>lhs;rw [e]
    rw [List.map_map];rfl
  rw [h]
theorem tops_T {s:ByteArray} {r:Rd} (h:read s = .ok r):sumT r.row r.tops=r.row.length:=by
  have hp:=sum_perm (f:=T r.row) (read_perm h);rw [List.map_append,List.sum_append,sum_flat] at hp;have hok:=read_ok_data h;rw [row_sum r.row fun x=>(x.l.map (T r.row)).sum] at hp;have e:((List.range r.row.length).map (T r.row)).sum=r.row.length+((List.range r.row.length).map fun i=>((ndAt r.row i).l.map (T r.row)).sum).sum:=by
    have:∀ (l:List Nat),(l.map (T r.row)).sum=l.length+(l.map fun i=>((ndAt r.row i).l.map (T r.row)).sum).sum:=by
      intro l;induction l with
      | nil=>rfl
      | cons i l ih=>simp only [List.map_cons,List.sum_cons,List.length_cons,ih];rw [T_kids hok i];omega
    have h2:=this (List.range r.row.length);rw [List.length_range] at h2;exact h2
  unfold sumT;omega
theorem parts_len {s:ByteArray} {r:Rd} (h:read s = .ok r):(r.row.map fun x=>x.l.length).sum+r.tops.length=r.row.length:=by
  have hp:=(read_perm h).length_eq;rw [List.length_append,List.length_range,List.length_flatMap] at hp;exact hp
end SC
end Go.Proofs.YtkcgbhlnkfogeaaDoor
namespace Go.Proofs.YtkcgbhlnkfogeaaDoor
namespace SC
open LX RX SX EX
def qn:Nd:=⟨3,0,0,quoteB,[]⟩
def hN (x:Nd):Nd:=⟨x.kind,x.at_+(1:Nat),x.n,x.s,x.l.map (· + 1)⟩
def hP (p:RX.Pt):RX.Pt:=⟨p.at_+(1:Nat),p.q,p.l.map (· + 1)⟩
def bot:RX.Pt:=⟨0,true,[0]⟩
def inA (r:Rd):Rd:=⟨qn::r.row.map hN,[],r.op.map hP++[bot]⟩
def inB (r:Rd):Rd:=⟨qn::r.row.map hN++[⟨4,0,0,emp,[0,r.row.length]⟩],[r.row.length+1],[]⟩
def Sm (r r':Rd):Prop:=(r.tops=[]∧r'=inA r)∨(r.op=[]∧r.tops.length=1∧r'=inB r)
theorem putO_q:∀ (ps:List RX.Pt) (row:List Nd) (x:Nd),Sm (putO ps row [] x) (putO (ps.map hP++[bot]) (qn::row.map hN) [] (hN x)):=by
  intro ps;induction ps with
  | nil =>
    intro row x;refine .inr ⟨rfl,rfl,?_⟩
    simp [putO,inB,bot]
  | cons p ps ih =>
    intro row x;rw [List.map_cons,List.cons_append];unfold putO;have e1:(hP p).q=p.q:=rfl;have e2:(hP p).l.length=p.l.length:=by simp [hP]
    rw [e1,e2];split
    · have:=ih (row++[x]) ⟨4,p.at_,0,emp,p.l++[row.length]⟩;have e:putO (ps.map hP++[bot]) (qn::(row++[x]).map hN) [] (hN ⟨4,p.at_,0,emp,p.l++[row.length]⟩)=putO (ps.map hP++[bot]) ((qn::row.map hN)++[hN x]) [] ⟨4,(hP p).at_,0,emp,(hP p).l++[(qn::row.map hN).length]⟩:=by
        congr 1
        · simp
        · simp [hN,hP]
      rw [e] at this;exact this
    · refine .inl ⟨rfl,?_⟩
      simp [inA,hP]
theorem put_q (op:List RX.Pt) (row:List Nd) (x:Nd):Sm (put ⟨row,[],op⟩ x) (put (inA ⟨row,[],op⟩) (hN x)):=putO_q op row x
def mT (r:Rd):Nat:=r.tops.length+if r.op=[] then 0 else 1
theorem mT_le (r:Rd):r.tops.length≤mT r∧mT r≤r.tops.length+1:=by
  unfold mT;split <;> omega
theorem putO_m:∀ (ps:List RX.Pt) (row:List Nd) (tops:List Nat) (x:Nd),mT (putO ps row tops x)=tops.length+1:=by
  intro ps;induction ps with
  | nil=>intro row tops x;simp [putO,mT]
  | cons p ps ih =>
    intro row tops x;unfold putO;split
    · exact ih _ _ _
    · simp [mT]
theorem token_m {r r1:Rd} {t:Tk} (h:token r t = .ok r1):mT r1=r.tops.length+1∨(r1=r∧∀ u,u.kind=t.kind→∀ r',token r' u = .ok r'):=by
  unfold token at h;by_cases k4:t.kind=4
  · rw [if_pos k4] at h;cases h;exact .inl (putO_m _ _ _ _)
  rw [if_neg k4] at h;by_cases k5:t.kind=5
  · rw [if_pos k5] at h;cases h;exact .inl (putO_m _ _ _ _)
  rw [if_neg k5] at h;by_cases k6:t.kind=6
  · rw [if_pos k6] at h;cases h;exact .inl (putO_m _ _ _ _)
  rw [if_neg k6] at h;by_cases k1:t.kind=1
  · rw [if_pos k1] at h;split at h
    · cases h
    · cases h;exact .inl (by simp [mT])
  rw [if_neg k1] at h;by_cases k3:t.kind=3
  · rw [if_pos k3] at h;split at h
    · cases h
    · cases h;exact .inl (putO_m _ _ _ _)
  rw [if_neg k3] at h;by_cases k2:t.kind=2
  · rw [if_pos k2] at h;split at h
    · cases h
    split at h
    · cases h
    · rename_i hop;cases h
      unfold close;cases ho:r.op with
      | nil=>exact absurd ho hop
      | cons p ps=>exact .inl (putO_m _ _ _ _)
  rw [if_neg k2] at h;cases h
  refine .inr ⟨rfl,fun u hu r'=>?_⟩
  unfold token;rw [hu,if_neg k4,if_neg k5,if_neg k6,if_neg k1,if_neg k3,if_neg k2]
theorem tokens_m:∀ (ts:List Tk) (r r2:Rd),tokens ts r = .ok r2→mT r≤mT r2:=by
  intro ts;induction ts with
  | nil=>intro r r2 h;cases h;omega
  | cons t ts ih =>
    intro r r2 h;simp only [tokens] at h
    cases h1:token r t with
    | error e=>rw [h1] at h;cases h
    | ok r1 =>
      rw [h1] at h;have:=ih _ _ h;have hl:=mT_le r
      rcases token_m h1 with h2 | ⟨rfl,_⟩ <;> omega
theorem token_q {row:List Nd} {op:List RX.Pt} {r1:Rd} {t:Tk} (h:token ⟨row,[],op⟩ t = .ok r1):(∃ e,token (inA ⟨row,[],op⟩) (shiftT 1 t) = .error e)∨∃ r',token (inA ⟨row,[],op⟩) (shiftT 1 t) = .ok r'∧Sm r1 r':=by
  have ek:(shiftT 1 t).kind=t.kind:=rfl;unfold token at h ⊢;rw [ek];by_cases k4:t.kind=4
  · rw [if_pos k4] at h ⊢;cases h;exact .inr ⟨_,rfl,put_q op row _⟩
  rw [if_neg k4] at h ⊢;by_cases k5:t.kind=5
  · rw [if_pos k5] at h ⊢;cases h;exact .inr ⟨_,rfl,put_q op row _⟩
  rw [if_neg k5] at h ⊢;by_cases k6:t.kind=6
  · rw [if_pos k6] at h ⊢;cases h;exact .inr ⟨_,rfl,put_q op row _⟩
  rw [if_neg k6] at h ⊢;by_cases k1:t.kind=1
  · rw [if_pos k1] at h ⊢;split
    · exact .inl ⟨_,rfl⟩
    · split at h
      · cases h
      · cases h
        exact .inr ⟨_,rfl,.inl ⟨rfl,by simp [inA,hP,shiftT]⟩⟩
  rw [if_neg k1] at h ⊢;by_cases k3:t.kind=3
  · rw [if_pos k3] at h ⊢;split
    · exact .inl ⟨_,rfl⟩
    · split at h
      · cases h
      · cases h
        exact .inr ⟨_,rfl,put_q (⟨t.at_,true,[]⟩::op) row ⟨3,t.at_,0,quoteB,[]⟩⟩
  rw [if_neg k3] at h ⊢;by_cases k2:t.kind=2
  · rw [if_pos k2] at h ⊢;split
    · exact .inl ⟨_,rfl⟩
    split
    · exact .inl ⟨_,rfl⟩
    split at h
    · cases h
    split at h
    · cases h
    rename_i hop;cases h
    cases op with
    | nil=>exact absurd rfl hop
    | cons p ps=>exact .inr ⟨_,rfl,putO_q ps row ⟨4,p.at_,0,emp,p.l⟩⟩
  rw [if_neg k2] at h ⊢;cases h
  exact .inr ⟨_,rfl,.inl ⟨rfl,rfl⟩⟩
theorem tokens_q:∀ (ts:List Tk) (r r' r2:Rd),Sm r r'→tokens ts r = .ok r2→mT r2≤1→(∃ e,tokens (ts.map (shiftT 1)) r' = .error e)∨∃ r3,tokens (ts.map (shiftT 1)) r' = .ok r3∧Sm r2 r3:=by
  intro ts;induction ts with
  | nil=>intro r r' r2 hS h _;cases h;exact .inr ⟨r',rfl,hS⟩
  | cons t ts ih =>
    intro r r' r2 hS h hm;simp only [tokens] at h
    rw [List.map_cons];simp only [tokens]
    cases h1:token r t with
    | error e=>rw [h1] at h;cases h
    | ok r1 =>
      rw [h1] at h;have hm1:=tokens_m _ _ _ h
      rcases hS with ⟨ht,rfl⟩ | ⟨ho,ht,rfl⟩
      · obtain ⟨row,tops,op⟩:=r;simp only at ht
        subst ht
        rcases token_q h1 with ⟨e,he⟩ | ⟨r4,he,hS⟩
        · rw [he];exact .inl ⟨_,rfl⟩
        · rw [he];exact ih r1 r4 r2 hS h hm
      · rcases token_m h1 with h2 | ⟨rfl,h2⟩
        · omega
        · rw [h2 (shiftT 1 t) rfl (inB r1)];exact ih r1 (inB r1) r2 (.inr ⟨ho,ht,rfl⟩) h hm
theorem read_quoted {s y:ByteArray} {r:Rd} (hs:s.size≤1000) (hy:bts y=39::bts s) (hR:read s = .ok r) (h1:r.tops.length=1):(∃ e,read y = .error e)∨read y = .ok (inB r):=by
  obtain ⟨ts,hl,ht,ho⟩:=read_ok hR;have hys:y.size≤4000:=by
    rw [← size_bts,hy,List.length_cons,size_bts];omega
  have hly:lex y = .ok (⟨3,0,0,emp⟩::ts.map (shiftT 1)):=by
    rw [lex_small hys,hy,lexL_step];have e:LX.step (39::bts s) = .tok 3 0 emp 1:=rfl;rw [e];simp only [List.drop_succ_cons,List.drop_zero]
    have hsh:=lexL_shift 1 [⟨3,0,0,emp⟩] _ (bts s) 0 [] (Nat.le_refl _);rw [lex_small (by omega)] at hl;rw [hl] at hsh;exact hsh
  rw [read_fin hly];simp only [tokens]
  have e0:token ⟨[],[],[]⟩ (⟨3,0,0,emp⟩:Tk) = .ok (inA ⟨[],[],[]⟩):=rfl;rw [e0];simp only
  have hm:mT r≤1:=by
    unfold mT;rw [if_pos ho];omega
  rcases tokens_q ts ⟨[],[],[]⟩ _ r (.inl ⟨rfl,rfl⟩) ht hm with ⟨e,he⟩ | ⟨r3,he,hS⟩
  · rw [he];exact .inl ⟨_,rfl⟩
  · rw [he]
    rcases hS with ⟨h,_⟩ | ⟨_,_,rfl⟩
    · rw [h] at h1;cases h1
    · exact .inr rfl
theorem expand_quoted (r:Rd):expand (inB r).row (inB r).tops = .ok ([⟨3,0,(r.row.length:Nat),emp,[],[]⟩],[0]):=by
  have hl:(inB r).row.length=r.row.length+2:=by simp [inB]
  have e1:ndAt (inB r).row (r.row.length+1)=⟨4,0,0,emp,[0,r.row.length]⟩:=by
    unfold ndAt inB;rw [List.getD_eq_getElem?_getD];have:(qn::r.row.map hN).length=r.row.length+1:=by simp
    rw [List.getElem?_append_right (by omega),this,Nat.sub_self];rfl
  have e0:ndAt (inB r).row 0=qn:=rfl;unfold expand;rw [hl];obtain ⟨f,hf⟩:∃ f,16*(r.row.length+2)=f+1:=⟨16*(r.row.length+2) - 1,by omega⟩
  rw [hf];show runTops (inB r).row (f+1) [r.row.length+1] [] []=_
  have e2:ev (inB r).row (.top (r.row.length+1)) = .mk (frm 3 0 (r.row.length:Nat)) []:=by
    show plan (inB r).row (r.row.length+1) true=_
    unfold plan;rw [e1];show listP (inB r).row ⟨4,0,0,emp,[0,r.row.length]⟩ true=_
    unfold listP;rw [if_neg (by simp)];show (if reserved (ndAt (inB r).row 0).s=true then EX.shape (inB r).row (ndAt (inB r).row 0).s 0 [r.row.length] true else _)=_
    rw [e0,if_pos (show reserved qn.s=true from rfl)];rfl
  simp only [runTops,run,e2,onPl,runs]
  rfl
theorem scope_quoted {s y:ByteArray} {r:Rd} (hs:s.size≤1000) (hy:bts y=39::bts s) (hR:read s = .ok r) (h1:r.tops.length=1) :
    ofS y = .ok ([],[],[])∨(∃ x,ofS y = .error x)∨∃ N row t,ofS y = .ok (N,row,t)∧t.length=1∧Qt row ((r.row.map fun x=>x.l.length).sum) r.row.length:=by
  unfold ofS
  rcases read_quoted hs hy hR h1 with ⟨e,he⟩ | he
  · rw [he];exact .inl rfl
  rw [he];simp only
  rw [expand_quoted];simp only
  have hok:=read_ok_data he;have hT:=tops_T he;have hp:=parts_len hR;have hl:(inB r).row.length=r.row.length+2:=by simp [inB]
  have e1:ndAt (inB r).row (r.row.length+1)=⟨4,0,0,emp,[0,r.row.length]⟩:=by
    unfold ndAt inB;rw [List.getD_eq_getElem?_getD];have:(qn::r.row.map hN).length=r.row.length+1:=by simp
    rw [List.getElem?_append_right (by omega),this,Nat.sub_self];rfl
  have t1:=T_kids hok (r.row.length+1);rw [e1] at t1;have t0:=T_kids hok 0;have e0:ndAt (inB r).row 0=qn:=rfl;rw [e0] at t0;have t0':T (inB r).row 0=1:=t0;have hTn:T (inB r).row r.row.length=r.row.length:=by
    have h2:sumT (inB r).row [r.row.length+1]=(inB r).row.length:=hT;rw [hl] at h2;simp only [sumT,List.map_cons,List.map_nil,List.sum_cons,List.sum_nil] at h2 t1
    omega
  unfold scope;generalize hC:cx (inB r).row [⟨3,0,(r.row.length:Nat),emp,[],[]⟩]=C;have hCn:C.ns=(inB r).row:=by rw [← hC];rfl
  have hCf:fmAt C.fs 0=⟨3,0,(r.row.length:Nat),emp,[],[]⟩:=by rw [← hC];rfl
  simp only [tops]
  unfold sx;have hw:=wgt_pos C (.form 0);obtain ⟨f,hf⟩:∃ f,wgt C (.form 0)=f+1:=⟨wgt C (.form 0) - 1,by omega⟩
  rw [hf];have e3:ex C (f+1) [] (.form 0) [] []=ex C (f+1) [] (.qd 0 r.row.length) [] []:=by
    simp only [ex,evS]
    rw [hCf];rfl
  rw [e3];cases hx:ex C (f+1) [] (.qd 0 r.row.length) [] [] with
  | error x=>exact .inr (.inl ⟨_,rfl⟩)
  | ok z =>
    obtain ⟨N,row,k⟩:=z;obtain ⟨new,rfl,hq⟩:=(ex_quote (by rw [hCn];exact hok) _ _ _ _ _ _ _ _ hx).1 0 r.row.length rfl;refine .inr (.inr ⟨N,_,_,rfl,rfl,?_⟩)
    rw [hCn,hTn] at hq;have:(r.row.map fun x=>x.l.length).sum=r.row.length - 1:=by omega
    rw [this];exact hq
end SC
end Go.Proofs.YtkcgbhlnkfogeaaDoor
