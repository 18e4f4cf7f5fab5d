/-
  Several texts in one: ReadShift,ReadQuoteF,ShowPlain,ShowBackP.
-/
import Derived.Test.YtehgmmbdlnginaaGreatDoorQReadCs
import Derived.Test.YtehgmmbdlnginaaGreatDoorQReadMays
import Derived.Test.YtehgmmbdlnginaaGreatDoorQLexPure
import Derived.Lib.ItoaNum
namespace Go.Proofs.YtehgmmbdlnginaaGreatDoor
namespace RX
open LX
def shN (d m:Nat) (x:Nd):Nd:=⟨x.kind,x.at_+d,x.n,x.s,x.l.map (· + m)⟩
def shP (d m:Nat) (p:Pt):Pt:=⟨p.at_+d,p.q,p.l.map (· + m)⟩
def shR (d:Nat) (row0:List Nd) (tops0:List Nat) (r:Rd):Rd:=⟨row0++r.row.map (shN d row0.length),tops0++r.tops.map (· + row0.length),r.op.map (shP d row0.length)⟩
end RX
end Go.Proofs.YtehgmmbdlnginaaGreatDoor
namespace Go.Proofs.YtehgmmbdlnginaaGreatDoor
namespace LX
end LX
namespace RX
open LX
def bare (x:Nd):Nd:=⟨x.kind,0,x.n,x.s,x.l⟩
def Alike (a b:Rd):Prop:=a.row.map bare=b.row.map bare∧a.tops=b.tops
theorem Alike.sh {a b c d:Rd} (h:Alike a b) (k:Alike c d) (m n:Nat):Alike (shR m a.row a.tops c) (shR n b.row b.tops d):=by
  obtain ⟨h1,h2⟩:=h;obtain ⟨k1,k2⟩:=k;have hl:a.row.length=b.row.length:=by have:=congrArg List.length h1;simpa using this
  refine ⟨?_,?_⟩
  · simp only [shR,List.map_append,List.map_map,h1,hl]
    have e:∀ (j i:Nat) (l:List Nd),l.map (bare ∘ shN j i)=(l.map bare).map (shN 0 i):=by
      intro j i l;rw [List.map_map];rfl
    rw [e,e,k1]
  · simp only [shR,h2,hl,k2]
def qd:Nat→ByteArray
  | 0=>⟨#[55]⟩
  | 1=>⟨#[120]⟩
  | 2=>⟨#[40,41]⟩
  | _=>⟨#[40,97,32,98,41]⟩
def qs (d:Nat):Nat→ByteArray
  | 0=>qd d
  | k+1=>⟨#[39]⟩++qs d k
def ql (d:Nat):Nat→ByteArray
  | 0=>qd d
  | k+1=>⟨#[40,113,117,111,116,101,32]⟩++ql d k ++ ⟨#[41]⟩
end RX
end Go.Proofs.YtehgmmbdlnginaaGreatDoor
namespace Go.Proofs.YtehgmmbdlnginaaGreatDoor
namespace SX
open LX RX
theorem getD_mem (l:List Nat) (k:Nat) (h:k < l.length):l.getD k 0∈l:=by
  rw [List.getD_eq_getElem?_getD,List.getElem?_eq_getElem h];exact List.getElem_mem h
def nd0:Nd:=⟨0,0,0,emp,[]⟩
def ndAt (ns:List Nd) (i:Nat):Nd:=ns.getD i nd0
def quo (ns:List Nd) (x:Nd):Bool:=decide (x.l.length=2) && (decide ((ndAt ns (x.l.getD 0 0)).kind=3) && decide ((ndAt ns (x.l.getD 0 0)).s=quoteB))
structure Ok (ns:List Nd):Prop where
  kind:∀ x∈ns,x.kind=1∨x.kind=2∨x.kind=3∨x.kind=4
  leaf:∀ x∈ns,x.kind≠4→x.l=[]
  lt:∀ i,i < ns.length→∀ p∈(ndAt ns i).l,p < i
  len:∀ i,i < ns.length→(ndAt ns i).l.length≤1099511627776
  num:∀ i,i < ns.length→-9223372036854775808≤(ndAt ns i).n∧(ndAt ns i).n≤9223372036854775807
def szF (ns:List Nd):Nat→Nat→Nat
  | 0,_=>0
  | f+1,i=>2+((ndAt ns i).l.map (szF ns f)).sum
def sz (ns:List Nd) (i:Nat):Nat:=szF ns (i+1) i
theorem sum_mem {l:List Nat} {f:Nat→Nat} {x:Nat} (h:x∈l):f x≤(l.map f).sum:=by
  induction l with
  | nil=>cases h
  | cons y l ih =>
    rw [List.map_cons,List.sum_cons]
    rcases List.mem_cons.1 h with rfl | h
    · omega
    · have:=ih h;omega
end SX
end Go.Proofs.YtehgmmbdlnginaaGreatDoor
namespace Go.Proofs.YtehgmmbdlnginaaGreatDoor
namespace SX
open LX RX
inductive Ch (P:Nat→Nat→Prop):Nat→Nat→List Nat→Prop
  | nil (a:Nat):Ch P a a []
  | snoc {a b c:Nat} {l:List Nat}:Ch P a b l→P b c→Ch P a (c+1) (l++[c])
theorem Ch.mono {P Q:Nat→Nat→Prop} (h:∀ b c,P b c→Q b c) {a b:Nat} {l:List Nat} (k:Ch P a b l):Ch Q a b l:=by
  induction k with
  | nil=>exact .nil _
  | snoc _ hp ih=>exact .snoc ih (h _ _ hp)
def Leaf (x:Nd):Prop :=
  (x.kind=1∧x.s=emp∧x.l=[]∧(Lib.itoa x.n).all let_=true∧Lib.itoa x.n≠[]∧one (Lib.itoa x.n) = .tok 4 x.n emp (Lib.itoa x.n).length) ∨
  (x.kind=2∧(x.n=0∨x.n=1)∧x.s=emp∧x.l=[]) ∨
  (x.kind=3∧x.n=0∧x.l=[]∧(bts x.s).all let_=true∧bts x.s≠[]∧one (bts x.s) = .tok 6 0 x.s (bts x.s).length)
def Dat (ns:List Nd):Nat→Nat→Nat→Prop
  | 0,b,c=>b=c∧∃ x,ns[c]? = some x∧Leaf x
  | k+1,b,c=>(b=c∧∃ x,ns[c]? = some x∧Leaf x)∨∃ x,ns[c]? = some x∧x.kind=4∧x.n=0∧x.s=emp∧Ch (Dat ns k) b c x.l
theorem dat_leaf {ns:List Nd} {k c:Nat} {x:Nd} (h:ns[c]? = some x) (hx:Leaf x):Dat ns k c c:=by
  cases k with
  | zero=>exact ⟨rfl,x,h,hx⟩
  | succ k=>exact .inl ⟨rfl,x,h,hx⟩
theorem Dat.mono {ns ms:List Nd} (h:∀ (c:Nat) x,ns[c]? = some x→ms[c]? = some x):∀ k b c,Dat ns k b c→Dat ms k b c:=by
  intro k;induction k with
  | zero =>
    rintro b c ⟨e,x,h1,h2⟩;exact ⟨e,x,h c x h1,h2⟩
  | succ k ih =>
    rintro b c (⟨e,x,h1,h2⟩ | ⟨x,h1,h2,h3,h4,h5⟩)
    · exact .inl ⟨e,x,h c x h1,h2⟩
    · exact .inr ⟨x,h c x h1,h2,h3,h4,h5.mono ih⟩
theorem grow_at (ns:List Nd) (x:Nd) (c:Nat) (y:Nd) (h:ns[c]? = some y):(ns++[x])[c]? = some y:=by
  have:c < ns.length:=(List.getElem?_eq_some_iff.1 h).1;rw [List.getElem?_append_left this];exact h
theorem last_at (ns:List Nd) (x:Nd):(ns++[x])[ns.length]? = some x:=by simp
def Lv (row:List Nd) (tops:List Nat):List Pt→Nat→Prop
  | [],e=>Ch (Dat row 50) 0 e tops
  | p::ps,e=>ps.length < 50∧∃ b,Ch (Dat row (50 - (ps.length+1))) b e p.l∧Lv row tops ps b
theorem Lv.mono {row:List Nd} {tops:List Nat} (x:Nd):∀ {ps:List Pt} {e:Nat},Lv row tops ps e→Lv (row++[x]) tops ps e:=by
  intro ps;induction ps with
  | nil=>intro e h;exact Ch.mono (Dat.mono (grow_at row x) 50) h
  | cons p ps ih =>
    rintro e ⟨h1,b,h2,h3⟩;exact ⟨h1,b,h2.mono (Dat.mono (grow_at row x) _),ih h3⟩
theorem putO_lv:∀ (ps:List Pt) (row:List Nd) (tops:List Nat) (x:Nd) (b:Nat),Lv row tops ps b→Dat (row++[x]) (50 - ps.length) b row.length→ps.length≤50→Lv (putO ps row tops x).row (putO ps row tops x).tops (putO ps row tops x).op (putO ps row tops x).row.length:=by
  intro ps;induction ps with
  | nil =>
    intro row tops x b h hd _;show Ch (Dat (row++[x]) 50) 0 (row++[x]).length (tops++[row.length])
    rw [List.length_append,List.length_singleton];exact .snoc (Ch.mono (Dat.mono (grow_at row x) 50) h) hd
  | cons p ps ih =>
    intro row tops x b h hd hl;obtain ⟨h1,b0,h2,h3⟩:=h;have hC:Ch (Dat (row++[x]) (50 - (ps.length+1))) b0 (row.length+1) (p.l++[row.length]):=.snoc (h2.mono (Dat.mono (grow_at row x) _)) hd;unfold putO;split
    · have e:50 - ps.length=(50 - (ps.length+1))+1:=by omega
      refine ih (row++[x]) tops ⟨4,p.at_,0,emp,p.l++[row.length]⟩ b0 (h3.mono x) ?_ (by omega)
      rw [e];refine .inr ⟨_,last_at _ _,rfl,rfl,rfl,?_⟩
      rw [List.length_append,List.length_singleton];exact hC.mono (Dat.mono (grow_at _ _) _)
    · show Lv (row++[x]) tops (⟨p.at_,p.q,p.l++[row.length]⟩::ps) (row++[x]).length
      rw [List.length_append,List.length_singleton];exact ⟨h1,b0,hC,h3.mono x⟩
def TokOk (t:Tk):Prop:=(t.kind=4→Leaf ⟨1,t.at_,t.n,emp,[]⟩)∧(t.kind=5→Leaf ⟨2,t.at_,t.n,emp,[]⟩)∧(t.kind=6→Leaf ⟨3,t.at_,0,t.s,[]⟩)
theorem leaf_quote (a:Int):Leaf ⟨3,a,0,quoteB,[]⟩:=.inr (.inr ⟨rfl,rfl,rfl,by show (bts quoteB).all let_=true;decide,by show bts quoteB≠[];decide,by show one (bts quoteB) = .tok 6 0 quoteB (bts quoteB).length;kernel_rfl⟩)
theorem Lv.open {row:List Nd} {tops:List Nat} {ps:List Pt} {e:Nat} (h:Lv row tops ps e):ps.length≤50:=by
  cases ps with
  | nil=>simp
  | cons p ps=>have:=h.1;simp;omega
theorem put_leaf {r:Rd} {x:Nd} (h:Lv r.row r.tops r.op r.row.length) (hx:Leaf x):Lv (put r x).row (put r x).tops (put r x).op (put r x).row.length :=
  putO_lv r.op r.row r.tops x r.row.length h (dat_leaf (last_at _ _) hx) h.open
theorem token_lv {r r':Rd} {t:Tk} (h:Lv r.row r.tops r.op r.row.length) (ht:TokOk t) (e:token r t = .ok r'):Lv r'.row r'.tops r'.op r'.row.length:=by
  unfold token at e;split at e
  · rename_i hk;injection e with e;subst e;exact put_leaf h (ht.1 hk)
  split at e
  · rename_i hk;injection e with e;subst e;exact put_leaf h (ht.2.1 hk)
  split at e
  · rename_i hk;injection e with e;subst e;exact put_leaf h (ht.2.2 hk)
  split at e
  · split at e
    · cases e
    · injection e with e;subst e;exact ⟨by omega,_,.nil _,h⟩
  split at e
  · split at e
    · cases e
    · injection e with e;subst e;exact put_leaf (r:=⟨r.row,r.tops,⟨t.at_,true,[]⟩::r.op⟩) ⟨by omega,_,.nil _,h⟩ (leaf_quote _)
  split at e
  · split at e
    · cases e
    · split at e
      · cases e
      · injection e with e;subst e;unfold close;split
        · exact h
        · rename_i p ps hop;rw [hop] at h;obtain ⟨h1,b,h2,h3⟩:=h;refine putO_lv ps r.row r.tops ⟨4,p.at_,0,emp,p.l⟩ b h3 ?_ (by omega)
          have e:50 - ps.length=(50 - (ps.length+1))+1:=by omega
          rw [e];exact .inr ⟨_,last_at _ _,rfl,rfl,rfl,h2.mono (Dat.mono (grow_at _ _) _)⟩
  · injection e with e;subst e;exact h
theorem tokens_lv:∀ (ts:List Tk) {r r':Rd},Lv r.row r.tops r.op r.row.length→(∀ t∈ts,TokOk t)→tokens ts r = .ok r'→Lv r'.row r'.tops r'.op r'.row.length:=by
  intro ts;induction ts with
  | nil=>intro r r' h _ e;simp [tokens] at e;subst e;exact h
  | cons t ts ih =>
    intro r r' h hb e;simp only [tokens] at e
    cases hT:token r t with
    | error z=>rw [hT] at e;cases e
    | ok r1 =>
      rw [hT] at e;exact ih (token_lv h (hb t (List.mem_cons_self ..)) hT) (fun u hu=>hb u (List.mem_cons_of_mem _ hu)) e
theorem dgN_dec:∀ (f m:Nat),m < 10 ^ (f+1)→dgN f m=Lib.decDigits m:=by
  intro f;induction f with
  | zero =>
    intro m h;rw [dgN_few _ _ (by simp at h;omega),Lib.decDigits_one (by simpa using h)];rfl
  | succ f ih =>
    intro m h;by_cases h9:9 < m
    · rw [dgN_snoc _ _ h9,ih _ (by rw [Nat.pow_succ] at h;omega)];conv=>rhs;rw [Lib.decDigits,dif_neg (by omega)]
      rfl
    · rw [dgN_few _ _ h9,Lib.decDigits_one (by omega)];rfl
theorem dgs_itoa (n:Int) (h1 : -1099511627776 < n) (h2:n < 1099511627776):dgs n=Lib.itoa n:=by
  unfold dgs Lib.itoa;split
  · rw [dgN_dec 20 _ (LW.pow21 (by omega))];congr 2;omega
  · rw [dgN_dec 20 _ (LW.pow21 (by omega))]
theorem step_leaf {c:UInt8} {r:List UInt8} {kd n:Int} {sv:ByteArray} {k:Nat} (a:Int) (h:LX.step (c::r) = .tok kd n sv k):TokOk ⟨kd,a,n,sv⟩:=by
  unfold LX.step at h;simp only at h
  split at h
  · cases h
  split at h
  · cases h
  split at h
  · injection h with e1 e2 e3 e4;have:LX.mark c≤3:=by unfold LX.mark;split <;> (try split) <;> (try split) <;> omega
    exact ⟨fun (e:kd=4)=>by omega,fun (e:kd=5)=>by omega,fun (e:kd=6)=>by omega⟩
  split at h
  · split at h
    · injection h with e1 e2 e3 e4;exact ⟨fun (e:kd=4)=>by omega,fun _=>.inr (.inl ⟨rfl,.inr e2.symm,rfl,rfl⟩),fun (e:kd=6)=>by omega⟩
    · split at h
      · injection h with e1 e2 e3 e4;exact ⟨fun (e:kd=4)=>by omega,fun _=>.inr (.inl ⟨rfl,.inl e2.symm,rfl,rfl⟩),fun (e:kd=6)=>by omega⟩
      · cases h
  split at h
  · cases h
  · rename_i h5;have hlet:let_ c=true:=by simpa using h5
    have hwl:=word_let (c::r);have hw0:word (c::r)≠[]:=by
      have:=word_pos (r:=r) hlet;intro e;rw [e] at this;simp at this
    generalize word (c::r)=w at *;have ho:=h;unfold one at h;split at h
    · split at h
      · cases h
      · injection h with e1 e2 e3 e4;subst e1 e2 e3 e4;refine ⟨fun (e:(6:Int)=4)=>by omega,fun (e:(6:Int)=5)=>by omega,fun _=>.inr (.inr ⟨rfl,rfl,rfl,?_,?_,?_⟩)⟩
        · show (bts (str w)).all let_=true
          rw [bts_str];exact hwl
        · show bts (str w)≠[]
          rw [bts_str];exact hw0
        · show one (bts (str w))=_
          rw [bts_str];exact ho
    · rename_i hn;split at h
      · cases h
      · split at h
        · cases h
        · injection h with e1 e2 e3 e4;have hn2:number w=true:=by simpa using hn
          subst e1 e2 e3;refine ⟨fun _=>.inl ?_,fun (e:(4:Int)=5)=>by omega,fun (e:(4:Int)=6)=>by omega⟩
          obtain ⟨g1,g2,g3,g4⟩:=dgs_ok hn2 (by omega) (by omega) (by omega);rw [dgs_itoa _ (by omega) (by omega)] at g1 g2 g4;exact ⟨rfl,rfl,rfl,g1,g2,g4⟩
theorem read_dat {s:ByteArray} {r:Rd} (h:read s = .ok r):Ch (Dat r.row 50) 0 r.row.length r.tops:=by
  obtain ⟨ts,h1,h2,h3⟩:=read_ok h;have ht:∀ t∈ts,TokOk t:=lex_all TokOk (fun i hi kd n sv k hst=>step_leaf _ hst) h1;have:=tokens_lv ts (r:=⟨[],[],[]⟩) (Ch.nil 0) ht h2;rw [h3] at this;exact this
def bareT (t:Tk):Tk:=⟨t.kind,0,t.n,t.s⟩
def Stop (l:List UInt8):Prop:=l=[]∨∃ x b,l=x::b∧let_ x=false
def LexTo (D:List UInt8) (U:List Tk):Prop:=∀ rest,Stop rest→∀ (p:Nat) (out:List Tk),∃ T,T.map bareT=U∧lexL (D++rest) p out=lexL rest (p+D.length) (out++T)
theorem LexTo.nil:LexTo [] []:=fun rest _ p out=>⟨[],rfl,by simp⟩
theorem LexTo.blank {D:List UInt8} {U:List Tk} (h:LexTo D U):LexTo (32::D) U:=by
  intro rest hr p out;obtain ⟨T,e1,e2⟩:=h rest hr (p+1) out;refine ⟨T,e1,?_⟩
  rw [List.cons_append,lexL_blank,e2,List.length_cons];congr 1;omega
theorem LexTo.mark {D:List UInt8} {U:List Tk} (h:LexTo D U) {c:UInt8} (hc:LX.mark c≠0):LexTo (c::D) (⟨LX.mark c,0,0,emp⟩::U):=by
  intro rest hr p out;obtain ⟨T,e1,e2⟩:=h rest hr (p+1) (out++[⟨LX.mark c,p,0,emp⟩]);have h1:LX.blank c=false∧c≠59:=by
    rcases LW.mark_yes hc with rfl | rfl | rfl <;> decide
  refine ⟨⟨LX.mark c,p,0,emp⟩::T,by rw [List.map_cons,e1];rfl,?_⟩
  rw [List.cons_append,lexL_step,step_mark h1.1 h1.2 hc];simp only [List.drop_succ_cons,List.drop_zero]
  rw [e2,List.length_cons,List.append_assoc];congr 1;omega
theorem word_stop {w rest:List UInt8} (hw:w.all let_=true) (hr:Stop rest):word (w++rest)=w:=by
  rcases hr with rfl | ⟨x,b,rfl,hx⟩
  · rw [List.append_nil,word_all hw]
  · rw [word_app _ _ _ hx,word_all hw]
theorem LexTo.word {w:List UInt8} {kd n:Int} {sv:ByteArray} {k:Nat} (ha:w.all let_=true) (h0:w≠[]) (h1:one w = .tok kd n sv k):LexTo w [⟨kd,0,n,sv⟩]:=by
  intro rest hr p out;refine ⟨[⟨kd,p,n,sv⟩],rfl,?_⟩
  have hw:=word_stop ha hr;cases w with
  | nil=>exact absurd rfl h0
  | cons c r =>
    have hc:let_ c=true:=by rw [List.all_cons,Bool.and_eq_true] at ha;exact ha.1
    obtain ⟨a1,a2,a3,a4⟩:=let_apart hc;have hk:=one_k h1;subst hk;rw [List.cons_append] at hw ⊢;rw [lexL_step,step_one a1 a2 a3 a4 hc,hw,h1];simp only
    rw [← List.cons_append,List.drop_left]
theorem LexTo.bool (c:UInt8) (n:Int) (h:(c=116∧n=1)∨(c=102∧n=0)):LexTo [35,c] [⟨5,0,n,emp⟩]:=by
  intro rest hr p out;refine ⟨[⟨5,p,n,emp⟩],rfl,?_⟩
  show lexL (35::c::rest) p out=_
  rw [lexL_step,step_hash (by decide) (by decide) (by decide) rfl]
  rcases h with ⟨rfl,rfl⟩ | ⟨rfl,rfl⟩
  · have hw:LX.word (116::rest)=[116]:=word_stop (w:=[116]) (by decide) hr;rw [hw,if_pos rfl];rfl
  · have hw:LX.word (102::rest)=[102]:=word_stop (w:=[102]) (by decide) hr;rw [hw,if_neg (by decide),if_pos rfl];rfl
theorem read_ok_data {s:ByteArray} {r:Rd} (h:read s = .ok r):Ok r.row:=by
  have hI:=(read_inv (P:=fun x=>-9223372036854775808≤x.n∧x.n≤9223372036854775807) (Q:=fun _=>True) (fun _ _ _ _ h=>h) (fun _ _ _=>⟨by show (-9223372036854775808:Int)≤0;omega,by show (0:Int)≤9223372036854775807;omega⟩) h
    (fun _ hl=>brings _ _ hl (fun t hi _ _=>⟨by have:=hi.good.lo;show _≤t.n;omega,by have:=hi.good.hi;show t.n≤_;omega⟩) (fun t hi _=>⟨by have:=hi.good.lo;show _≤t.n;omega,by have:=hi.good.hi;show t.n≤_;omega⟩) (fun _ _ _=>⟨by show (-9223372036854775808:Int)≤0;omega,by show (0:Int)≤9223372036854775807;omega⟩) (fun _ _ _ _ _=>trivial) (fun _ _ _=>⟨fun _ _=>trivial,by show (-9223372036854775808:Int)≤0;omega,by show (0:Int)≤9223372036854775807;omega⟩))).1
  have hsz:=read_sizes h;have hat:∀ i (hi:i < r.row.length),ndAt r.row i=r.row[i]:=fun i hi=>by
    unfold ndAt;rw [List.getD_eq_getElem?_getD,List.getElem?_eq_getElem hi];rfl
  refine ⟨fun x hx=>?_,fun x hx hk=>?_,fun i hi p hp=>?_,fun i hi=>?_,fun i hi=>?_⟩
  · rcases (hI.good x hx).1.2 with h | h | h | h
    · exact .inl h.1
    · exact .inr (.inl h.1)
    · exact .inr (.inr (.inl h.1))
    · exact .inr (.inr (.inr h.1))
  · rcases (hI.good x hx).1.2 with h | h | h | h
    · exact h.2.2
    · exact h.2.2.2
    · exact h.2.2
    · exact absurd h.1 hk
  · rw [hat i hi] at hp;exact hI.below i hi p hp
  · rw [hat i hi];have:=hsz.2.2 _ (List.getElem_mem hi);omega
  · rw [hat i hi];exact (hI.good _ (List.getElem_mem hi)).2
end SX
end Go.Proofs.YtehgmmbdlnginaaGreatDoor
