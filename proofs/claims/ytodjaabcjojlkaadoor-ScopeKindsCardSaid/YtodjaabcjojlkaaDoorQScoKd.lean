/-
  Layer 9's ScopeKinds: what holds of each form that is resolved, seen from those by themselves down; how many there are below each. No condition.
-/
import Derived.Test.YtodjaabcjojlkaaDoorQScoFm
namespace Go.Proofs.YtodjaabcjojlkaaDoor
namespace SC
open LX RX SX EX
def rf0:Rf:=⟨0,0,0,0,emp,0,[]⟩
def rfAt (row:List Rf) (i:Nat):Rf:=row.getD i rf0
theorem rf_at {row:List Rf} {i:Nat} (h:i < row.length):rfAt row i=row[i]:=by
  unfold rfAt;rw [List.getD_eq_getElem?_getD,List.getElem?_eq_getElem h];rfl
theorem rf_app {row:List Rf} {i:Nat} (h:i < row.length) (ext:List Rf):rfAt (row++ext) i=rfAt row i:=by
  unfold rfAt;rw [List.getD_eq_getElem?_getD,List.getD_eq_getElem?_getD,List.getElem?_append_left h]
theorem rf_end (row:List Rf) (f:Rf) (ext:List Rf):rfAt (row++[f]++ext) row.length=f:=by
  rw [rf_app (by simp),rf_at (by simp)];simp
structure Ck (nl:Nat) (L:List Nat) (f:Rf):Prop where
  k:f.kind≠1∧f.kind≠2∧f.kind≠3
  l:f.kind=11∨f.kind=7→(∃ (k m:Nat),f.a=k∧L[k]? = some m∧0≤f.n∧f.n < m)∨f.a < 0∧f.kind=7
  fn:f.kind=6→0≤f.n∧f.n≤100
  p:f.kind=12→1≤f.n∧f.n < 31
  n:f.kind=4∨f.kind=9∨f.kind=7∧f.a < 0→0≤f.n∧f.n < nl
def good (row:List Rf) (nl:Nat):Nat→List Nat→Nat→Prop
  | 0,_,_=>False
  | f+1,L,i=>i < row.length∧Ck nl L (rfAt row i)∧∀ p∈(rfAt row i).l,p < i∧good row nl f (if (rfAt row i).kind=6 then (rfAt row i).n.toNat::L else L) p
def sz (row:List Rf):Nat→Nat→Nat
  | 0,_=>1
  | f+1,i=>1+((rfAt row i).l.map (sz row f)).sum
structure Dn (R:Rws) (s s':Su) (i:Nat):Prop where
  pre:∃ new,s'.2=s.2++new
  names:s.1.length≤s'.1.length
  lt:i < s'.2.length
  good:∀ ext nl f,s'.1.length≤nl→i < f→good (s'.2++ext) nl f (R.map List.length) i
  sz:∀ ext f,i < f→s.2.length+sz (s'.2++ext) f i=s'.2.length
theorem putL_len (N:List ByteArray) (s:ByteArray):N.length≤(NP.putL N s).length:=by
  unfold NP.putL;split
  · simp
  · exact Nat.le_refl _
theorem ev_names {C:Cx} {R:Rws} {N:List ByteArray} {p:Sp} {sn:Sn} {N':List ByteArray} (e:evS C R N p=(sn,N')):N.length≤N'.length:=by
  have hq:∀ a i,quo C.ns R N a i=(sn,N')→N.length≤N'.length:=fun a i e=>by
    unfold quo at e;split at e
    · injection e with _ e;subst e;exact Nat.le_refl _
    split at e
    · injection e with _ e;subst e;exact Nat.le_refl _
    split at e
    · injection e with _ e;subst e;exact putL_len _ _
    · injection e with _ e;subst e;exact Nat.le_refl _
  cases p with
  | qd a i=>exact hq a i e
  | ql a l=>simp only [evS,Prod.mk.injEq] at e;rw [e.2];exact Nat.le_refl _
  | form i =>
    simp only [evS] at e
    generalize fmAt C.fs i=g at *;unfold evF at e;split at e
    · injection e with _ e;subst e;exact Nat.le_refl _
    split at e
    · injection e with _ e;subst e;exact Nat.le_refl _
    split at e
    · exact hq _ _ e
    split at e
    · unfold nameP at e;split at e
      · injection e with _ e;subst e;exact Nat.le_refl _
      · split at e
        · injection e with _ e;subst e;exact putL_len _ _
        · injection e with _ e;subst e;exact Nat.le_refl _
    split at e
    · injection e with _ e;subst e;exact Nat.le_refl _
    split at e
    · unfold setP' at e;split at e
      · injection e with _ e;subst e;exact Nat.le_refl _
      · split at e
        · injection e with _ e;subst e;exact putL_len _ _
        · injection e with _ e;subst e;exact Nat.le_refl _
    split at e
    · unfold defP at e;split at e
      · injection e with _ e;subst e;exact Nat.le_refl _
      · injection e with _ e;subst e;exact putL_len _ _
    split at e
    · injection e with _ e;subst e;exact Nat.le_refl _
    · injection e with _ e;subst e;exact Nat.le_refl _
structure Dns (R:Rws) (s s':Su) (l:List Nat):Prop where
  pre:∃ new,s'.2=s.2++new
  names:s.1.length≤s'.1.length
  lt:∀ i∈l,i < s'.2.length
  good:∀ ext nl f,s'.1.length≤nl→(∀ i∈l,i < f)→∀ i∈l,good (s'.2++ext) nl f (R.map List.length) i
  sz:∀ ext f,(∀ i∈l,i < f)→s.2.length+(l.map (SC.sz (s'.2++ext) f)).sum=s'.2.length
theorem parts_dn {R:Rws} {ps:List Sp} {s s':Su} {l:List Nat} (h:Parts (fun _=>Dn R) ps s s' l):Dns R s s' l:=by
  induction h with
  | nil s=>exact ⟨⟨[],by simp⟩,Nat.le_refl _,(fun i hi=>by cases hi),(fun _ _ _ _ _ i hi=>by cases hi),fun _ _ _=>by simp⟩
  | @cons p ps s s1 s2 i l h1 h2 ih =>
    obtain ⟨n1,e1⟩:=h1.pre;obtain ⟨n2,e2⟩:=ih.pre;have hlt:s1.2.length≤s2.2.length:=by rw [e2];simp
    refine ⟨⟨n1++n2,by rw [e2,e1];simp⟩,Nat.le_trans h1.names ih.names,fun j hj=>?_,fun ext nl f hn hf j hj=>?_,fun ext f hf=>?_⟩
    · rcases List.mem_cons.1 hj with rfl | hj
      · have:=h1.lt;omega
      · exact ih.lt j hj
    · rcases List.mem_cons.1 hj with rfl | hj
      · have:=h1.good (n2++ext) nl f (Nat.le_trans ih.names hn) (hf j (List.mem_cons_self ..));rw [e2,List.append_assoc];exact this
      · exact ih.good ext nl f hn (fun k hk=>hf k (List.mem_cons_of_mem _ hk)) j hj
    · have a:=h1.sz (n2++ext) f (hf i (List.mem_cons_self ..));have b:=ih.sz ext f (fun k hk=>hf k (List.mem_cons_of_mem _ hk));rw [← List.append_assoc,← e2] at a;rw [List.map_cons,List.sum_cons];omega
theorem ck_of {N':List ByteArray} {R:Rws} {f:Rf} {R':Rws} {m nl:Nat} (h:Shp N' R f R' m) (hn:N'.length≤nl) (l:List Nat):Ck nl (R.map List.length) { f with l:=l }∧R'.map List.length=if f.kind=6 then f.n.toNat::R.map List.length else R.map List.length:=by
  have hin:∀ {a n:Int},InR R a n→∃ (k m:Nat),a=k∧(R.map List.length)[k]? = some m∧0≤n∧n < m:=fun ⟨k,j,r,e1,e2,e3,e4⟩=>⟨k,r.length,e1,by rw [List.getElem?_map,e3];rfl,by omega,by omega⟩
  have h6:=h.r6
  rcases h.kinds with h | h | h | h | h | h | h | h | h | h
  · refine ⟨⟨by simp only;omega,fun e=>?_,fun e=>?_,fun e=>?_,fun e=>?_⟩,?_⟩ <;> first | (simp only at e;omega) | (rw [h6 (by omega),if_neg (by omega)])
  · refine ⟨⟨by simp only;omega,fun e=>.inl (hin h.2.2),fun e=>?_,fun e=>?_,fun e=>?_⟩,?_⟩ <;> first | (simp only at e;omega) | (rw [h6 (by omega),if_neg (by omega)])
  · refine ⟨⟨by simp only;omega,fun e=>?_,fun e=>?_,fun e=>?_,fun e=>by simp only;omega⟩,?_⟩ <;> first | (simp only at e;omega) | (rw [h6 (by omega),if_neg (by omega)])
  · obtain ⟨k,_,r,e1,e2,e3⟩:=h;refine ⟨⟨by simp only;omega,fun e=>?_,fun e=>by simp only;omega,fun e=>?_,fun e=>?_⟩,?_⟩ <;> first | (simp only at e;omega) | (rw [if_pos k,e1,e2];simp)
  · obtain ⟨k,_,hh⟩:=h;refine ⟨⟨by simp only;omega,fun e=>?_,fun e=>?_,fun e=>?_,fun e=>?_⟩,?_⟩
    · rcases hh with hh | hh
      · exact .inl (hin hh)
      · exact .inr ⟨by simp only;omega,k⟩
    · simp only at e;omega
    · simp only at e;omega
    · simp only at e ⊢
      rcases hh with ⟨k2,j,r,e1,e2,e3,e4⟩ | hh
      · omega
      · omega
    · rw [h6 (by omega),if_neg (by omega)]
  · refine ⟨⟨by simp only;omega,fun e=>?_,fun e=>?_,fun e=>?_,fun e=>by simp only;omega⟩,?_⟩ <;> first | (simp only at e;omega) | (rw [h6 (by omega),if_neg (by omega)])
  · refine ⟨⟨by simp only;omega,fun e=>?_,fun e=>?_,fun e=>by simp only;omega,fun e=>?_⟩,?_⟩ <;> first | (simp only at e;omega) | (rw [h6 (by omega),if_neg (by omega)])
  · refine ⟨⟨by simp only;omega,fun e=>?_,fun e=>?_,fun e=>?_,fun e=>?_⟩,?_⟩ <;> first | (simp only at e;omega) | (rw [h6 (by omega),if_neg (by omega)])
  · refine ⟨⟨by simp only;omega,fun e=>?_,fun e=>?_,fun e=>?_,fun e=>?_⟩,?_⟩ <;> first | (simp only at e;omega) | (rw [h6 (by omega),if_neg (by omega)])
  · refine ⟨⟨by simp only;omega,fun e=>?_,fun e=>?_,fun e=>?_,fun e=>?_⟩,?_⟩ <;> first | (simp only at e;omega) | (rw [h6 (by omega),if_neg (by omega)])
theorem dn_step {K:List ByteArray} {C:Cx} (h:Gd C K) (R:Rws) (p:Sp) (s:Su) (f:Rf) (R':Rws) (ps:List Sp) (N':List ByteArray) (s':Su) (l:List Nat) (hN:Nk K s.1) (ht:ThS C p) (e:evS C R s.1 p=(.mk f R' ps,N')) (hp:Parts (fun _=>Dn R') ps (N',s.2) s' l):Dn R s (s'.1,s'.2++[{ f with l:=l }]) s'.2.length:=by
  have hsh:=ev_shp h hN ht e;have hnm:=ev_names e;have D:=parts_dn hp;obtain ⟨new,en⟩:=D.pre;have hnn:N'.length≤s'.1.length:=D.names;refine ⟨⟨new++[{ f with l:=l }],by simp only;rw [en];simp⟩,by simp only;omega,by simp,fun ext nl g hnl hg=>?_,fun ext g hg=>?_⟩
  · cases g with
    | zero=>omega
    | succ g =>
      obtain ⟨c1,c2⟩:=ck_of (nl:=nl) hsh (Nat.le_trans hnn hnl) l;refine ⟨by simp,by simp only;rw [rf_end];exact c1,?_⟩
      simp only
      rw [rf_end];intro q hq;have hq1:=D.lt q hq;refine ⟨hq1,?_⟩
      have:=D.good ([{ f with l:=l }]++ext) nl g hnl (fun i hi=>by have:=D.lt i hi;omega) q hq;rw [c2] at this;rw [List.append_assoc];exact this
  · cases g with
    | zero=>omega
    | succ g =>
      unfold sz;simp only
      rw [rf_end];have:=D.sz ([{ f with l:=l }]++ext) g (fun i hi=>by have:=D.lt i hi;omega);rw [← List.append_assoc] at this;simp only at this ⊢
      rw [List.length_append,List.length_singleton];omega
theorem kinds_ok {s:ByteArray} (hs:s.size≤1000) {N:List ByteArray} {row:List Rf} {l:List Nat} {r:Rd} {fs:List Fm} {ts:List Nat} (hR:read s = .ok r) (hX:expand r.row r.tops = .ok (fs,ts)) (h:scope r.row fs ts = .ok (N,row,l)) :
    (∀ t∈l,t < row.length∧good row N.length row.length [] t)∧(l.map (sz row row.length)).sum=row.length:=by
  have hG:=gd_of hR hX hs;have h1:=(tops_ind hG (P:=fun R _=>Dn R) (fun R p s f R' ps N' s' l hN ht e _ hp=>dn_step hG R p s f R' ps N' s' l hN ht e hp) (fms_of hR hX).tlt h).1;have D:=parts_dn h1;refine ⟨fun t ht=>⟨D.lt t ht,?_⟩,?_⟩
  · have:=D.good [] N.length row.length (Nat.le_refl _) D.lt t ht;rw [List.append_nil] at this;exact this
  · have:=D.sz [] row.length D.lt;rw [List.append_nil] at this;simpa using this
theorem parts_lt {s:ByteArray} (hs:s.size≤1000) {N:List ByteArray} {row:List Rf} {l:List Nat} {r:Rd} {fs:List Fm} {ts:List Nat} (hR:read s = .ok r) (hX:expand r.row r.tops = .ok (fs,ts)) (h:scope r.row fs ts = .ok (N,row,l)):∀ (i:Nat) (hi:i < row.length),∀ p∈row[i].l,p < i:=by
  have hG:=gd_of hR hX hs;have hlt:∀ {Q:Sp→Su→Su→Nat→Prop} {ps:List Sp} {s s':Su} {l:List Nat},Parts Q ps s s' l→(∀ p s s' i,Q p s s' i→i < s'.2.length∧s.2.length≤s'.2.length)→(∀ i∈l,i < s'.2.length)∧s.2.length≤s'.2.length:=by
    intro Q ps s s' l h hQ;induction h with
    | nil s=>exact ⟨(fun i hi=>by cases hi),Nat.le_refl _⟩
    | cons h1 _ ih =>
      obtain ⟨a1,a2⟩:=hQ _ _ _ _ h1;refine ⟨fun i hi=>?_,by omega⟩
      rcases List.mem_cons.1 hi with rfl | hi
      · omega
      · exact ih.1 i hi
  have hkeep:∀ {Q:Sp→Su→Su→Nat→Prop} {ps:List Sp} {s s':Su} {l:List Nat},Parts Q ps s s' l→(∀ p s s' i,Q p s s' i→(∀ (i:Nat) (hi:i < s.2.length),∀ p∈s.2[i].l,p < i)→∀ (i:Nat) (hi:i < s'.2.length),∀ p∈s'.2[i].l,p < i)→(∀ (i:Nat) (hi:i < s.2.length),∀ p∈s.2[i].l,p < i)→∀ (i:Nat) (hi:i < s'.2.length),∀ p∈s'.2[i].l,p < i:=by
    intro Q ps s s' l h hQ;induction h with
    | nil s=>exact id
    | cons h1 _ ih=>exact fun hs=>ih (hQ _ _ _ _ h1 hs)
  have h1:=(tops_ind hG (P:=fun _ _ a b i=>(i < b.2.length∧a.2.length≤b.2.length)∧((∀ (i:Nat) (hi:i < a.2.length),∀ p∈a.2[i].l,p < i)→∀ (i:Nat) (hi:i < b.2.length),∀ p∈b.2[i].l,p < i)) (fun R p z f R' ps N' s' l hN ht e _ hp=>by
    obtain ⟨a1,a2⟩:=hlt hp (fun p s s' i h=>h.1);have a3:=hkeep hp (fun p s s' i h=>h.2);refine ⟨⟨by simp,by simp only [List.length_append,List.length_singleton];simp only at a2;omega⟩,fun hz i hi q hq=>?_⟩
    simp only at hi hq
    rw [List.length_append,List.length_singleton] at hi;by_cases hlt:i < s'.2.length
    · rw [List.getElem_append_left hlt] at hq;exact a3 hz i hlt q hq
    · have hie:i=s'.2.length:=by omega
      subst hie;rw [List.getElem_append_right (Nat.le_refl _)] at hq;simp only [Nat.sub_self,List.getElem_cons_zero] at hq
      exact a1 q hq) (fms_of hR hX).tlt h).1
  exact hkeep h1 (fun p s s' i h=>h.2) (fun i hi=>absurd hi (by simp))
end SC
end Go.Proofs.YtodjaabcjojlkaaDoor
