/-
  Several texts in one: ScoFe,ScoKe,ScoKm.
-/
import Derived.Test.YtodjaabcjojlkaaDoorQScoFm
import Derived.Test.YtodjaabcjojlkaaDoorQScoKd
import Derived.Test.YtodjaabcjojlkaaDoorQScoRow
import Derived.ArgAppend
namespace Go.Proofs.YtodjaabcjojlkaaDoor
open Go.RowKit
set_option linter.unusedVariables false
namespace SC
open LX RX SX EX
def nsOf (s:ByteArray):List Nd:=match RX.read s with | .error _=>[] | .ok r=>r.row
def xOf (s:ByteArray):List Fm × List Nat:=match RX.read s with | .error _=>([],[]) | .ok r=>match EX.expand r.row r.tops with | .error _=>([],[]) | .ok x=>x
theorem ofS_eq (s:ByteArray):ofS s=SC.scope (nsOf s) (xOf s).1 (xOf s).2:=by
  unfold ofS nsOf xOf;cases RX.read s with
  | error e=>rfl
  | ok r =>
    simp only
    cases EX.expand r.row r.tops with
    | error e=>rfl
    | ok x=>rfl
def KOf (s:ByteArray):List ByteArray:=(nsOf s).map (·.s)
structure TxOk (s:ByteArray):Prop where
  gd:Gd (cx (nsOf s) (xOf s).1) (KOf s)
  fms:SM.Fms (xOf s).1 (xOf s).2 (nsOf s).length
  few:∀ x∈nsOf s,x.l.length≤100000
  dlen:(nsOf s).length≤100000
  fl:∀ x∈(xOf s).1,x.l.length≤100000
  flen:(xOf s).1.length≤100000
  tlen:(xOf s).2.length≤99999
  wt:((xOf s).2.map (F (cx (nsOf s) (xOf s).1))).sum≤128160000
  may:RX.may ((nsOf s).map RX.toI)=true
theorem tx_ok (s:ByteArray) (hs:s.size≤1000):TxOk s:=by
  cases hR:RX.read s with
  | error e =>
    have h1:nsOf s=[]:=by unfold nsOf;rw [hR]
    have h2:xOf s=([],[]):=by unfold xOf;rw [hR]
    have hK:KOf s=[]:=by unfold KOf;rw [h1];rfl
    refine ⟨?_,?_,?_,?_,?_,?_,?_,?_,?_⟩
    · rw [h1,h2,hK];exact gd_none
    · rw [h1,h2];exact fms_nil 0
    · rw [h1];exact fun x hx=>by cases hx
    · rw [h1];simp
    · rw [h2];exact fun x hx=>by cases hx
    · rw [h2];simp
    · rw [h2];simp
    · rw [h2];simp
    · rw [h1];rfl
  | ok r =>
    have h1:nsOf s=r.row:=by unfold nsOf;rw [hR]
    have hK:KOf s=r.row.map (·.s):=by unfold KOf;rw [h1]
    have hsz:=RX.read_sizes hR;cases hX:EX.expand r.row r.tops with
    | error e =>
      have h2:xOf s=([],[]):=by unfold xOf;rw [hR];simp only;rw [hX]
      refine ⟨?_,?_,?_,?_,?_,?_,?_,?_,?_⟩
      · rw [h1,h2,hK];exact gd_nil hR hs
      · rw [h1,h2];exact fms_nil _
      · rw [h1];exact fun x hx=>by have:=hsz.2.2 x hx;omega
      · rw [h1];omega
      · rw [h2];exact fun x hx=>by cases hx
      · rw [h2];simp
      · rw [h2];simp
      · rw [h2];simp
      · rw [h1];exact RX.read_may hR
    | ok x =>
      obtain ⟨fs,ts⟩:=x;have h2:xOf s=(fs,ts):=by unfold xOf;rw [hR];simp only;rw [hX]
      have hF:=forms_of hR hX;have hsm:=fms_small (fms_of hR hX);have hlen:=hF.len;have htl:=hF.tlen;refine ⟨?_,?_,?_,?_,?_,?_,?_,?_,?_⟩
      · rw [h1,h2,hK];exact gd_of hR hX hs
      · rw [h1,h2];exact fms_of hR hX
      · rw [h1];exact fun x hx=>by have:=hsz.2.2 x hx;omega
      · rw [h1];omega
      · rw [h2];exact fun x hx=>by have:=hsm x hx;omega
      · rw [h2];simp only;omega
      · rw [h2];simp only;omega
      · rw [h1,h2];exact tops_F hR hX hs
      · rw [h1];exact RX.read_may hR
theorem ev_few {C:Cx} (hfl:∀ i,(fmAt C.fs i).l.length≤100000) {R:Rws} {N:List ByteArray} {p:Sp} {f:Rf} {R':Rws} {ps:List Sp} {N':List ByteArray} (e:evS C R N p=(.mk f R' ps,N')):ps.length≤100000:=by
  have hql:∀ a l,quoL R a l = .mk f R' ps→ps.length≤100000:=fun a l e=>by
    cases l <;> (simp only [quoL,Sn.mk.injEq] at e;obtain ⟨-,-,rfl⟩:=e;simp)
  have hq:∀ a i,quo C.ns R N a i=(.mk f R' ps,N')→ps.length≤100000:=fun a i e=>by
    unfold quo at e;split at e
    · simp only [Prod.mk.injEq,Sn.mk.injEq] at e;obtain ⟨⟨-,-,rfl⟩,-⟩:=e;simp
    split at e
    · simp only [Prod.mk.injEq,Sn.mk.injEq] at e;obtain ⟨⟨-,-,rfl⟩,-⟩:=e;simp
    split at e
    · simp only [Prod.mk.injEq,Sn.mk.injEq] at e;obtain ⟨⟨-,-,rfl⟩,-⟩:=e;simp
    · simp only [Prod.mk.injEq] at e;exact hql _ _ e.1
  cases p with
  | qd a i=>exact hq a i e
  | ql a l=>simp only [evS,Prod.mk.injEq] at e;exact hql a l e.1
  | form i =>
    simp only [evS] at e
    have hl:=hfl i;generalize fmAt C.fs i=g at *;have fin:∀ {x:Rf} {R1:Rws} {qs:List Sp} {M:List ByteArray},((.mk x R1 qs,M):Sn × List ByteArray)=(.mk f R' ps,N')→qs.length≤100000→ps.length≤100000:=by
      intro x R1 qs M e h;simp only [Prod.mk.injEq,Sn.mk.injEq] at e
      obtain ⟨⟨-,-,rfl⟩,-⟩:=e;exact h
    have hm:(g.l.map Sp.form).length≤100000:=by rw [List.length_map];exact hl
    unfold evF at e;split at e
    · exact fin e (by simp)
    split at e
    · exact fin e (by simp)
    split at e
    · exact hq _ _ e
    split at e
    · unfold nameP at e;split at e
      · exact fin e (by simp)
      · split at e
        · exact fin e (by simp)
        · cases e
    split at e
    · exact fin e hm
    split at e
    · unfold setP' at e;split at e
      · exact fin e hm
      · split at e
        · exact fin e hm
        · cases e
    split at e
    · unfold defP at e;split at e
      · cases e
      · exact fin e hm
    split at e
    · unfold callP at e;split at e
      · split at e
        · cases e
        · exact fin e (by rw [List.length_map,List.length_drop];omega)
      · exact fin e hm
    · exact fin e hm
theorem parts_keep {Q:Sp→Su→Su→Nat→Prop} {G:Rf→Prop} {ps:List Sp} {s s':Su} {l:List Nat} (h:Parts Q ps s s' l) (hQ:∀ p s s' i,Q p s s' i→(∀ f∈s.2,G f)→∀ f∈s'.2,G f):(∀ f∈s.2,G f)→∀ f∈s'.2,G f:=by
  induction h with
  | nil s=>exact id
  | cons h1 _ ih=>exact fun hs=>ih (hQ _ _ _ _ h1 hs)
theorem parts_grow {Q:Sp→Su→Su→Nat→Prop} {W:Sp→Nat} {ps:List Sp} {s s':Su} {l:List Nat} (h:Parts Q ps s s' l) (hQ:∀ p s s' i,p∈ps→Q p s s' i→s'.2.length≤s.2.length+W p):s'.2.length≤s.2.length+(ps.map W).sum:=by
  induction h with
  | nil s=>simp
  | cons h1 h2 ih =>
    have a:=hQ _ _ _ _ (List.mem_cons_self ..) h1;have b:=ih (fun p s s' i hp=>hQ p s s' i (List.mem_cons_of_mem _ hp));rw [List.map_cons,List.sum_cons];omega
theorem scope_few {s:ByteArray} (hs:s.size≤1000) {N:List ByteArray} {row:List Rf} {l:List Nat} (h:ofS s = .ok (N,row,l)):row.length≤128160000∧(∀ f∈row,f.l.length≤100000)∧l.length≤100000:=by
  have T:=tx_ok s hs;rw [ofS_eq] at h;have hfl:∀ i,(fmAt (cx (nsOf s) (xOf s).1).fs i).l.length≤100000:=fun i=>by
    show (fmAt (xOf s).1 i).l.length≤100000
    by_cases hi:i < (xOf s).1.length
    · rw [fm_in hi];exact T.fl _ (List.getElem_mem hi)
    · rw [fm_out hi];exact Nat.zero_le _
  have ht:∀ t∈(xOf s).2,t < (cx (nsOf s) (xOf s).1).fs.length:=T.fms.tlt;have h1:=tops_ind T.gd (P:=fun _ p a b _=>((∀ f∈a.2,f.l.length≤100000)→∀ f∈b.2,f.l.length≤100000)∧b.2.length≤a.2.length+wgt (cx (nsOf s) (xOf s).1) p) (fun R p z f R' ps N' s' l _ _ e _ hp=>by
    have hlen:=hp.len;have hfew:=ev_few hfl e;have hw:=ev_wg T.gd.fw R z.1 p;rw [e] at hw;simp only [wgn] at hw
    have hg:=parts_grow (W:=wgt (cx (nsOf s) (xOf s).1)) hp (fun p s s' i _ h=>h.2);refine ⟨fun hs g hg2=>?_,?_⟩
    · rcases List.mem_append.1 hg2 with hg2 | hg2
      · exact parts_keep (G:=fun f=>f.l.length≤100000) hp (fun p s s' i h=>h.1) hs g hg2
      · rw [List.mem_singleton.1 hg2];simp only;omega
    · rw [List.length_append,List.length_singleton];have:s'.2.length≤z.2.length+wgts (cx (nsOf s) (xOf s).1) ps:=hg;omega) ht h
  have hg:=parts_grow (W:=wgt (cx (nsOf s) (xOf s).1)) h1.1 (fun p s s' i _ h=>h.2);rw [List.map_map] at hg;have hw:=T.wt;have he:((xOf s).2.map (wgt (cx (nsOf s) (xOf s).1) ∘ Sp.form)).sum=((xOf s).2.map (F (cx (nsOf s) (xOf s).1))).sum:=rfl;rw [he] at hg;have hl:=h1.1.len;rw [List.length_map] at hl;have:=T.tlen;refine ⟨by simpa using Nat.le_trans hg (by simpa using hw),parts_keep (G:=fun f=>f.l.length≤100000) h1.1 (fun p s s' i h=>h.1) (fun f hf=>by cases hf),by omega⟩
end SC
end Go.Proofs.YtodjaabcjojlkaaDoor
namespace Go.Proofs.YtodjaabcjojlkaaDoor
set_option linter.unusedVariables false
namespace SC
open LX RX SX EX
theorem bad_of {s:ByteArray} (hs:s.size≤1000) {x:Er} (h:ofS s = .error x):(x.2.1=90∨x.2.1=91)∧0≤x.1∧x.1 < s.size:=by
  unfold ofS at h;cases hR:RX.read s with
  | error e=>rw [hR] at h;cases h
  | ok r =>
    rw [hR] at h;simp only at h
    cases hX:EX.expand r.row r.tops with
    | error e=>rw [hX] at h;cases h
    | ok y =>
      rw [hX] at h;simp only at h
      obtain ⟨fs,ts⟩:=y;have hG:=gd_of hR hX hs;obtain ⟨h1,i,h2,h3⟩:=tops_bad hG.fw _ _ _ _ _ h;refine ⟨h1,?_⟩
      rw [h2]
      change (fmAt fs i).kind≠0 at h3
      show 0≤(fmAt fs i).at_∧(fmAt fs i).at_ < s.size
      by_cases hi:i < fs.length
      · rw [fm_in hi];exact (forms_of hR hX).at_ _ (List.getElem_mem hi)
      · rw [fm_out hi] at h3;exact absurd rfl h3
def szA (row:List Rf) (i:Nat):Nat:=sz row row.length i
theorem sz_same {row:List Rf} (hlt:∀ (i:Nat) (hi:i < row.length),∀ p∈row[i].l,p < i):∀ (f g i:Nat),i < row.length→i < f→i < g→sz row f i=sz row g i:=by
  intro f;induction f with
  | zero=>intro g i _ h;omega
  | succ f ih =>
    intro g i hi hf hg;cases g with
    | zero=>omega
    | succ g =>
      unfold sz;have:(rfAt row i).l.map (sz row f)=(rfAt row i).l.map (sz row g):=List.map_congr_left fun p hp=>by
        rw [rf_at hi] at hp;have:=hlt i hi p hp;exact ih g p (by omega) (by omega) (by omega)
      rw [this]
theorem szA_eq {row:List Rf} (hlt:∀ (i:Nat) (hi:i < row.length),∀ p∈row[i].l,p < i) {i:Nat} (hi:i < row.length):szA row i=1+(row[i].l.map (szA row)).sum:=by
  unfold szA;obtain ⟨f,hf⟩:∃ f,row.length=f+1:=⟨row.length - 1,by omega⟩
  have e:sz row row.length i=1+((rfAt row i).l.map (sz row f)).sum:=by rw [hf];rfl
  rw [e,rf_at hi];have:row[i].l.map (sz row f)=row[i].l.map (sz row row.length):=List.map_congr_left fun p hp=>by
    have:=hlt i hi p hp;exact sz_same hlt f row.length p (by omega) (by omega) (by omega)
  rw [this]
def Gk (row:List Rf) (nl:Nat) (L:List Nat) (i:Nat):Prop:=∃ f,good row nl f L i
theorem Gk.open_ {row:List Rf} {nl i:Nat} {L:List Nat} (h:Gk row nl L i):∃ hi:i < row.length,Ck nl L row[i]∧∀ p∈row[i].l,Gk row nl (if row[i].kind=6 then row[i].n.toNat::L else L) p:=by
  obtain ⟨f,h⟩:=h;cases f with
  | zero=>cases h
  | succ f =>
    obtain ⟨hi,h1,h2⟩:=h;rw [rf_at hi] at h1 h2;exact ⟨hi,h1,fun p hp=>⟨f,(h2 p hp).2⟩⟩
structure Todo (row:List Rf) (nl seen:Nat) (ps:List (Nat × List Nat)):Prop where
  ok:∀ x∈ps,Gk row nl x.2 x.1
  deep:∀ x∈ps,x.2.length≤seen
  sum:(ps.map fun x=>szA row x.1).sum+seen=row.length
theorem szA_pos (row:List Rf) {i:Nat} (h:i < row.length):1≤szA row i:=by
  unfold szA;obtain ⟨f,hf⟩:∃ f,row.length=f+1:=⟨row.length - 1,by omega⟩
  rw [hf];unfold sz;omega
theorem Todo.len {row:List Rf} {nl seen:Nat} {ps:List (Nat × List Nat)} (h:Todo row nl seen ps):ps.length+seen≤row.length:=by
  have:∀ (qs:List (Nat × List Nat)),(∀ x∈qs,Gk row nl x.2 x.1)→qs.length≤(qs.map fun x=>szA row x.1).sum:=by
    intro qs;induction qs with
    | nil=>intro _;exact Nat.le_refl _
    | cons x qs ih =>
      intro hq;have h1:=ih fun y hy=>hq y (List.mem_cons_of_mem _ hy)
      obtain ⟨hi,_,_⟩:=(hq x (List.mem_cons_self ..)).open_;have h2:=szA_pos row hi;simp only [List.map_cons,List.sum_cons,List.length_cons]
      omega
  have h1:=this ps h.ok;have h2:=h.sum;omega
theorem Todo.none_ {row:List Rf} {nl seen:Nat} (h:Todo row nl seen []):seen=row.length:=by
  have:=h.sum;simpa using this
theorem Todo.step {row:List Rf} {nl seen i:Nat} {L:List Nat} {ps:List (Nat × List Nat)} (hlt:∀ (i:Nat) (hi:i < row.length),∀ p∈row[i].l,p < i) (h:Todo row nl seen (ps++[(i,L)])) :
    ∃ hi:i < row.length,Ck nl L row[i]∧L.length≤seen∧seen < row.length∧Todo row nl (seen+1) (ps++row[i].l.map fun p=>(p,if row[i].kind=6 then row[i].n.toNat::L else L)):=by
  obtain ⟨hi,h1,h2⟩:=(h.ok (i,L) (by simp)).open_;have h3:L.length≤seen:=h.deep (i,L) (by simp);have h4:=h.len;rw [List.length_append,List.length_singleton] at h4;refine ⟨hi,h1,h3,by omega,fun x hx=>?_,fun x hx=>?_,?_⟩
  · rcases List.mem_append.1 hx with hx | hx
    · exact h.ok x (List.mem_append_left _ hx)
    · obtain ⟨p,hp,rfl⟩:=List.mem_map.1 hx;exact h2 p hp
  · rcases List.mem_append.1 hx with hx | hx
    · have:=h.deep x (List.mem_append_left _ hx);omega
    · obtain ⟨p,hp,rfl⟩:=List.mem_map.1 hx;simp only at h3 ⊢
      split
      · rw [List.length_cons];omega
      · omega
  · have h5:=h.sum;rw [List.map_append,List.sum_append,List.map_singleton,List.sum_singleton] at h5;have h6:szA row (i,L).1=1+(row[i].l.map (szA row)).sum:=szA_eq hlt hi;rw [List.map_append,List.sum_append,List.map_map];have e:((fun x:Nat × List Nat=>szA row x.1) ∘ fun p=>(p,if row[i].kind=6 then row[i].n.toNat::L else L))=szA row:=rfl;rw [e];omega
theorem Todo.first {s:ByteArray} (hs:s.size≤1000) {N:List ByteArray} {row:List Rf} {l:List Nat} (h:ofS s = .ok (N,row,l)):Todo row N.length 0 (l.map fun t=>(t,[]))∧∀ (i:Nat) (hi:i < row.length),∀ p∈row[i].l,p < i:=by
  have hnil:(N,row,l)=(([]:List ByteArray),([]:List Rf),([]:List Nat))→Todo row N.length 0 (l.map fun t=>(t,[]))∧∀ (i:Nat) (hi:i < row.length),∀ p∈row[i].l,p < i:=by
    intro e;simp only [Prod.mk.injEq] at e
    obtain ⟨rfl,rfl,rfl⟩:=e;exact ⟨⟨(fun x hx=>absurd hx (by simp)),(fun x hx=>absurd hx (by simp)),rfl⟩,fun i hi=>absurd hi (by simp)⟩
  unfold ofS at h;cases hR:RX.read s with
  | error e=>rw [hR] at h;injection h with h;exact hnil h.symm
  | ok r =>
    rw [hR] at h;simp only at h
    cases hX:EX.expand r.row r.tops with
    | error e=>rw [hX] at h;injection h with h;exact hnil h.symm
    | ok y =>
      rw [hX] at h;simp only at h
      obtain ⟨fs,ts⟩:=y;obtain ⟨h1,h2⟩:=kinds_ok hs hR hX h;refine ⟨⟨fun x hx=>?_,fun x hx=>?_,?_⟩,parts_lt hs hR hX h⟩
      · obtain ⟨t,ht,rfl⟩:=List.mem_map.1 hx;exact ⟨_,(h1 t ht).2⟩
      · obtain ⟨t,ht,rfl⟩:=List.mem_map.1 hx;exact Nat.le_refl _
      · rw [List.map_map,Nat.add_zero];exact h2
end SC
end Go.Proofs.YtodjaabcjojlkaaDoor
namespace Go.Proofs.YtodjaabcjojlkaaDoor
open Go.RowKit
set_option linter.unusedVariables false
namespace SM
open LX SX RW6 EX SC
open EW (Sl num)
theorem places_slice:Tryd.prog.underlying 34=some (.slice 36):=by kernel_rfl
theorem place_info:(Tryd.prog.info? 36).map (fun i=>(i.zero,i.size,i.bytes))=some (some (.agg #[.int .i64 0,.slice none 0 0]),2,32):=by kernel_rfl
theorem row_at {w:World} {k:Nat} {t:TypeId} {l:List Value} (h:w.heap.size=k):MM.Row (w.alloc (.cells l.toArray t)) k t l:=by subst h;exact MM.Row.new w t l
abbrev Pc:=Nat × List Nat × Value
def pcL (x:Pc):List Value:=[num x.1,x.2.2]
def pcC (ps:List Pc):List Value:=ps.flatMap pcL
theorem pcC_snoc (ps:List Pc) (x:Pc):pcC (ps++[x])=pcC ps++pcL x:=by simp [pcC]
theorem pcC_len (ps:List Pc):(pcC ps).length=ps.length*2:=by
  induction ps with
  | nil=>rfl
  | cons x r ih=>simp only [pcC,List.flatMap_cons,List.length_append,List.length_cons] at ih ⊢;rw [ih];simp [pcL];omega
structure Td (w:World) (B:Nat) (v:Value) (ps:List Pc):Prop where
  own:w.ownsRow B 36 2 v ps.length (pcC ps)
  rows:∀ x∈ps,Sl w v.ownBlock.toList x.2.2 (ints x.2.1.reverse)
theorem Td.none_ (w:World) (B:Nat):Td w B (.slice none 0 0) []:=⟨MO.none_ w B _ 2,fun x hx=>by cases hx⟩
theorem Td.far {w w':World} {B:Nat} {v:Value} {ps:List Pc} (h:Td w B v ps) (f:MM.Far [] w w'):Td w' B v ps :=
  ⟨MM.own_far h.own f (by simp),fun x hx=>(h.rows x hx).far f (by simp)⟩
theorem Td.form {w:World} {B:Nat} {v:Value} {ps:List Pc} (h:Td w B v ps):∃ A c,v = .slice A ps.length c:=by
  obtain ⟨A,c,e,_⟩:=MO.form h.own;exact ⟨A,c,e⟩
theorem Td.open_at {w:World} {B:Nat} {v:Value} {ps:List Pc} {x:Pc} (h:Td w B v (ps++[x])):∃ og oc,v = .slice (some ⟨og,0,none⟩) (ps.length+1) oc∧ps.length+1≤oc∧oc≤maxLen∧w.cell? ⟨og,ps.length*2,none⟩=some (num x.1)∧w.cell? ⟨og,ps.length*2+1,none⟩=some x.2.2 ∧
    og < w.heap.size∧Td w B (.slice (some ⟨og,0,none⟩) ps.length oc) ps∧Sl w [og] x.2.2 (ints x.2.1.reverse):=by
  have ho:=h.own;obtain ⟨A,c,e,_,hc1,hc2,_,hh⟩:=MO.form ho;have hlt:=fun b (hb:v.ownBlock=some b)=>MM.own_lt ho b hb
  have hr:=h.rows
  rcases hh with ⟨_,hz,_⟩ | ⟨og,rfl,_,_⟩
  · simp at hz
  subst e;have hcells:=fun j u (hu:(pcC (ps++[x]))[j]? = some u)=>@World.ownsRow.cells w _ _ _ _ _ _ ho og rfl j u hu
  have hc:∀ j u,(pcL x)[j]? = some u→w.cell? ⟨og,ps.length*2+j,none⟩=some u:=fun j u hu=>by
    have:(pcC (ps++[x]))[ps.length*2+j]? = some u:=by
      rw [pcC_snoc,List.getElem?_append_right (by rw [pcC_len];omega),pcC_len,show ps.length*2+j - ps.length*2=j by omega];exact hu
    have:=hcells _ u this;rw [MM.head_add] at this;exact this
  rw [List.length_append,List.length_singleton] at hc1;refine ⟨og,c,by rw [List.length_append,List.length_singleton],hc1,hc2,hc 0 _ rfl,hc 1 _ rfl,(hlt og rfl).1,⟨?_,fun y hy=>hr y (List.mem_append_left _ hy)⟩,hr x (by simp)⟩
  rw [List.length_append,List.length_singleton] at ho;have:=RC6.own_front (n:=ps.length+1) ho ps.length (by omega);rw [pcC_snoc,List.take_append_of_le_length (by rw [pcC_len];omega),List.take_of_length_le (by rw [pcC_len];omega)] at this;exact this
theorem Td.push {ops:Array Oper} {rest:List Oper} {o:Oper} {a:Act} {Q:Exit→Act→World→Prop} {B:Nat} {w:World} {v:Value} {ps:List Pc} (x:Pc)
    (hT:Td w B v ps) (hB:B≤w.heap.size) (hl:ps.length≤1000000000) (hx:Sl w v.ownBlock.toList x.2.2 (ints x.2.1.reverse)) (hgd:o.guard=none) (s y:Operand)
    (ho:o.op = .call { callee:=.builtin .append,args:=#[s,y],argTypes:=#[34,34] })
    (hs:a.eval s=v) (hy:a.eval y = .slice (some ⟨w.heap.size,0,none⟩) 1 1)
    (h:∀ A c w',Td w' B (.slice A (ps.length+1) c) (ps++[x])→MM.Far v.ownBlock.toList w w'→Sl w' (Value.slice A (ps.length+1) c).ownBlock.toList x.2.2 (ints x.2.1.reverse)→(∀ b,v.ownBlock=some b→B≤b)→wpList Tryd.prog ops Q rest (a.put o.dst (.slice A (ps.length+1) c)) w') :
    wpList Tryd.prog ops Q (o::rest) a (w.alloc (.cells (pcL x).toArray 36)):=by
  have hF:MM.Far [] w (w.alloc (.cells (pcL x).toArray 36)):=(MM.Far.refl [] w).alloc _;have hone:∀ u∈pcL x,u.oneCell'=true:=fun u hu=>by
    obtain ⟨A,c,e,_⟩:=hx;simp only [pcL,List.mem_cons,List.not_mem_nil,or_false] at hu
    rcases hu with rfl | rfl
    · rfl
    · rw [e];rfl
  refine MO.wpList_append _ hgd s y 34 ho B 36 (.agg #[.int .i64 0,.slice none 0 0]) 2 32 places_slice place_info rfl (by omega) v ps.length (pcC ps) hs (hT.own.alloc _) (some ⟨w.heap.size,0,none⟩) 1 1 (pcL x) hy rfl (fun h=>by cases h) [] ?_ hone ?_ ?_ (by have:=hF.size;omega) ?_
  · exact MM.Src.row (MM.Row.new w 36 (pcL x)) (by simp) _ (fun j u hu=>hu)
  · simp only [maxLen];omega
  · omega
  · intro v' w' hv hg hat;obtain ⟨A,c,rfl,_⟩:=MO.form hv;have f:=RC6.far_app0 hg;have keep:∀ {u:Value} {vs:List Value},Sl w v.ownBlock.toList u vs→Sl w' (Value.slice A (ps.length+1) c).ownBlock.toList u vs:=fun hu=>by
      refine (hu.more (Z':=v.ownBlock.toList++(Value.slice A (ps.length+1) c).ownBlock.toList) (fun b hb=>?_) |>.far f (fun b hb _=>List.mem_append_left _ hb)).more (fun b hb=>.inl (List.mem_append_right _ hb))
      rcases List.mem_append.1 hb with hb | hb
      · exact .inl hb
      · rcases hat with e | e
        · rw [e] at hb;exact .inl hb
        · rw [e] at hb;simp only [Option.toList_some,List.mem_singleton] at hb
          have:=hF.size;exact .inr (by omega)
    refine h A c w' ⟨by rw [pcC_snoc,List.length_append,List.length_singleton];exact hv,fun y hy=>?_⟩ f (keep hx) (fun b hb=>(MM.own_lt hT.own b hb).2)
    rcases List.mem_append.1 hy with hy | hy
    · exact keep (hT.rows y hy)
    · rw [List.mem_singleton.1 hy];exact keep hx
set_option maxRecDepth 20000 in
theorem step_rows {ops:Array Oper} {o:Oper} {a:Act} {W:World} {K:Act→World→Prop} {Q:Exit→Act→World→Prop} {E:Prop} {RA:Option Addr} {lr rc n bx:Nat} {L:List Nat} {Z:List Nat} (hgd:o.guard=none) (s x:Operand)
    (ho:o.op = .call { callee:=.builtin .append,args:=#[s,x],argTypes:=#[24,24] }) (hs:a.eval s = .slice RA lr lr) (hx:a.eval x = .slice (some ⟨bx,0,none⟩) 1 1) (hS:Sl W Z (.slice RA lr rc) (ints L)) (hn:RA=none→lr=0) (hl:lr≤1000000000)
    (hR:MM.Row W bx 3 [.int .i64 ((n:Nat):Int)]) (hZ:∀ b∈Z,b < W.heap.size)
    (h:∀ A c w',Sl w' Z (.slice A (lr+1) c) (ints (L++[n]))→MM.Far [] W w'→K (a.put o.dst (.slice A (lr+1) c)) w') :
    if Region.wanted o (yielded ops a.tmps)=true then Oper.wp Tryd.prog o a W K Q else E:=by
  have hll:lr=L.length:=by have:=EW.Sl.len hS;rw [this];simp [ints]
  have hone:∀ u∈[Value.int .i64 ((n:Nat):Int)],u.oneCell'=true:=fun u hu=>by rw [List.mem_singleton.1 hu];rfl
  have fin:∀ v' w',w'.ownsRow W.heap.size 3 1 v' (lr+1) (ints L++[.int .i64 ((n:Nat):Int)])→MM.Far [] W w'→K (a.put o.dst v') w':=fun v' w' hv f=>by
    obtain ⟨A,c,rfl,_⟩:=MO.form hv;have e:ints (L++[n])=ints L++[.int .i64 ((n:Nat):Int)]:=by simp [ints]
    refine h A c w' ?_ f
    rw [e];have hb:=fun b hb=>MM.own_lt hv b hb
    have hv2:w'.ownsRow W.heap.size 3 1 (.slice A (lr+1) c) (lr+1) (ints (L++[n])):=by rw [e];exact hv
    rw [← e];exact EW.Sl.own hv2 (fun b hb2 hz=>by have h1:=(hb b hb2).2;have h2:=hZ b hz;omega)
  cases RA with
  | none =>
    obtain rfl:=hn rfl;have hL:L=[]:=List.eq_nil_of_length_eq_zero hll.symm;subst hL;refine MO.step_append hgd s x 24 ho W.heap.size 3 (.int .i64 0) 1 8 RC6.ints_slice RC6.int_info rfl (by omega) (.slice none 0 0) 0 [] hs (MO.none_ _ _ _ _) (some ⟨bx,0,none⟩) 1 1 [.int .i64 ((n:Nat):Int)] hx rfl (fun h=>by cases h) [] ?_ hone (by simp [maxLen]) (by omega) (Nat.le_refl _) ?_
    · exact MM.Src.row hR (by simp) _ (fun j u hu=>hu)
    · intro v' w' hv hg hat;exact fin v' w' hv (MM.Far.of_grown (S:=[]) hg (by intro b hb;simp [Value.ownBlock] at hb))
  | some b =>
    have hw:Region.wanted o (yielded ops a.tmps)=true:=by simp [Region.wanted,hgd]
    rw [if_pos hw];obtain ⟨i,hi,hz,hsize,hby⟩:=info_parts RC6.int_info;obtain ⟨A',c',e,_,_,h3⟩:=hS;injection e with e1 _ _;subst e1;obtain ⟨v',w',hrun,r1,r2⟩:=run_append_arg_grows (P:=Tryd.prog) (w:=W) 24 o.type 3 i (.int .i64 0) 1 8 RC6.ints_slice hi hz hsize hby rfl (by omega) b lr lr (ints L) (by simp [ints,hll]) (fun j u hj=>by
      obtain ⟨g,off,eb,_,hlt,hc⟩:=h3 j u hj;injection eb with eb;subst eb;rw [Addr.add_lit];exact hc) ⟨bx,0,none⟩ 1 1 [.int .i64 ((n:Nat):Int)] rfl (fun j u hj=>by
      have:=hR.at hj;rw [MM.head_add];exact this) (by omega) (by simp only [maxLen];omega) (by omega)
    unfold Oper.wp;simp [execOp,ho,resolve,invoke,builtin,hs,hx,hrun,Result.andThen]
    exact fin v' w' r1 (MM.Far.of_grown (S:=[]) r2 (by intro b hb;cases hb))
end SM
end Go.Proofs.YtodjaabcjojlkaaDoor
