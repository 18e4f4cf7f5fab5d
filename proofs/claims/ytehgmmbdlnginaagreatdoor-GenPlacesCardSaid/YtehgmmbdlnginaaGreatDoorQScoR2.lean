/-
  Several texts in one: ScoRf,GenMem,GenC1,GenC2,ScoR2.
-/
import Derived.Test.YtehgmmbdlnginaaGreatDoorQExpBase
import Derived.Test.YtehgmmbdlnginaaGreatDoorQScoPlain
import Derived.Test.YtehgmmbdlnginaaGreatDoorQCodeC2
import Derived.Test.YtehgmmbdlnginaaGreatDoorQGenTy
import Derived.Test.YtehgmmbdlnginaaGreatDoorQScoDx
import Derived.Test.YtehgmmbdlnginaaGreatDoorQScoKd
import Derived.Deep.RegionLaw
import Derived.Deep.RegionHeld3
import Derived.BigQuiet
import Derived.Deep.QuietTactic
import Derived.Deep.DeepCutAuto
import Derived.Deep.LoopGhost
namespace Go.Proofs.YtehgmmbdlnginaaGreatDoor
open Go.RowKit
set_option linter.unusedVariables false
namespace SM
open LX SX RW6 EX SC
open EW (Sl num)
def rfL (x:Rf × Value):List Value:=[.int .u8 x.1.kind,num x.1.at_,num x.1.n,num x.1.a,.string x.1.s,.slice none 0 0,.int .u64 x.1.w,x.2]
def rfC (rs:List (Rf × Value)):List Value:=rs.flatMap rfL
theorem rfC_snoc (rs:List (Rf × Value)) (x:Rf × Value):rfC (rs++[x])=rfC rs++rfL x:=by simp [rfC]
theorem rf_one (f:Rf) (B:Option Addr) (m d:Nat):∀ u∈rfL (f,.slice B m d),u.oneCell'=true:=by
  intro u hu;simp only [rfL,List.mem_cons,List.not_mem_nil,or_false] at hu
  rcases hu with rfl | rfl | rfl | rfl | rfl | rfl | rfl | rfl <;> rfl
def RfR (w:World) (A:Option Addr) (rs:List Rf):Prop :=
  ∀ (k:Nat) (h:k < rs.length),∃ b o LA lc,A=some ⟨b,o,none⟩∧b < w.heap.size∧w.cell? ⟨b,o+k*8,none⟩=some (.int .u8 rs[k].kind)∧w.cell? ⟨b,o+k*8+1,none⟩=some (.int .i64 rs[k].at_)∧w.cell? ⟨b,o+k*8+2,none⟩=some (.int .i64 rs[k].n) ∧
    w.cell? ⟨b,o+k*8+3,none⟩=some (.int .i64 rs[k].a)∧w.cell? ⟨b,o+k*8+4,none⟩=some (.string rs[k].s)∧w.cell? ⟨b,o+k*8+5,none⟩=some (.slice none 0 0)∧w.cell? ⟨b,o+k*8+6,none⟩=some (.int .u64 rs[k].w) ∧
    w.cell? ⟨b,o+k*8+7,none⟩=some (.slice LA rs[k].l.length lc)∧IntRow w LA rs[k].l
theorem RfR.far {w w':World} {A:Option Addr} {fs:List Rf} (h:RfR w A fs) (f:MM.Far [] w w'):RfR w' A fs:=by
  intro k hk;obtain ⟨b,o,LA,lc,e,hb,c0,c1,c2,c3,c4,c5,c6,c7,hI⟩:=h k hk;have g (x:Nat):w'.cell? ⟨b,x,none⟩=w.cell? ⟨b,x,none⟩:=f.cell (p:=⟨b,x,none⟩) hb (by simp);exact ⟨b,o,LA,lc,e,Nat.lt_of_lt_of_le hb f.size,(g _).trans c0,(g _).trans c1,(g _).trans c2,(g _).trans c3,(g _).trans c4,(g _).trans c5,(g _).trans c6,(g _).trans c7,hI.far f⟩
theorem rfC_at:∀ (rs:List (Rf × Value)) (k:Nat) (h:k < rs.length) (j:Nat) (_:j < 8),(rfC rs)[k*8+j]? = (rfL rs[k])[j]?:=by
  intro rs;induction rs with
  | nil=>intro k h;simp at h
  | cons x rs ih =>
    intro k h j hj;have e:rfC (x::rs)=rfL x++rfC rs:=by simp [rfC]
    have hl:(rfL x).length=8:=rfl;rw [e];cases k with
    | zero=>rw [Nat.zero_mul,Nat.zero_add,List.getElem?_append_left (by omega)];rfl
    | succ k =>
      rw [List.getElem?_append_right (by omega),hl];have:=ih k (by simpa using h) j hj;rw [show (k+1)*8+j - 8=k*8+j from by omega,this];rfl
def RfS (w:World) (A:Option Addr) (rs:List Rf):Prop :=
  ∀ (k:Nat) (h:k < rs.length),∃ b o LA lc,A=some ⟨b,o,none⟩∧b < w.heap.size∧w.cell? ⟨b,o+k*8,none⟩=some (.int .u8 rs[k].kind)∧w.cell? ⟨b,o+k*8+1,none⟩=some (.int .i64 rs[k].at_)∧w.cell? ⟨b,o+k*8+2,none⟩=some (.int .i64 rs[k].n) ∧
    w.cell? ⟨b,o+k*8+3,none⟩=some (.int .i64 rs[k].a)∧w.cell? ⟨b,o+k*8+4,none⟩=some (.string rs[k].s)∧w.cell? ⟨b,o+k*8+5,none⟩=some (.slice none 0 0)∧w.cell? ⟨b,o+k*8+6,none⟩=some (.int .u64 rs[k].w) ∧
    w.cell? ⟨b,o+k*8+7,none⟩=some (.slice LA rs[k].l.length lc)∧Sl w [] (.slice LA rs[k].l.length lc) (ints rs[k].l)
theorem RfS.far {w w':World} {A:Option Addr} {fs:List Rf} (h:RfS w A fs) (f:MM.Far [] w w'):RfS w' A fs:=by
  intro k hk;obtain ⟨b,o,LA,lc,e,hb,c0,c1,c2,c3,c4,c5,c6,c7,hI⟩:=h k hk;have g (x:Nat):w'.cell? ⟨b,x,none⟩=w.cell? ⟨b,x,none⟩:=f.cell (p:=⟨b,x,none⟩) hb (by simp);exact ⟨b,o,LA,lc,e,Nat.lt_of_lt_of_le hb f.size,(g _).trans c0,(g _).trans c1,(g _).trans c2,(g _).trans c3,(g _).trans c4,(g _).trans c5,(g _).trans c6,(g _).trans c7,hI.far f (by simp)⟩
end SM
end Go.Proofs.YtehgmmbdlnginaaGreatDoor
namespace Go.Proofs.YtehgmmbdlnginaaGreatDoor
open Go.RowKit
set_option linter.unusedVariables false
namespace GW
open KP SC GP
open EW (Sl Bx)
@[reducible] def ptr (q:Nat):Value:=.pointer (some ⟨q,0,none⟩)
@[reducible] def num (a:Int):Value:=.int .i64 a
@[reducible] def fV (f:Rf) (lv:Value):Value:=.agg #[.int .u8 f.kind,num f.at_,num f.n,num f.a,.string f.s,.slice none 0 0,.int .u64 f.w,lv]
def IsS (w:World) (Z:List Nat) (q:Nat) (ad:List Nat) (v:Value):Stp→Prop
  | .put b x=>∃ bg bb bx,v = .func (.func 134) #[] #[ptr bg,ptr bb,ptr bx]∧Bx w Z bg 97 (ptr q)∧Bx w Z bb 3 (num b)∧MM.Row w bx 44 (KW.cel x)∧bx∉Z
  | .leap b op k=>∃ bg bb ba bo a,v = .func (.func 151) #[] #[ptr bg,ptr bb,ptr ba,ptr bo]∧Bx w Z bg 97 (ptr q)∧Bx w Z bb 3 (num b)∧Bx w Z ba 200 (ptr a)∧ad[k]? = some a∧Bx w Z bo 5 (.int .u8 op)
  | .land b k=>∃ bg bb ba a,v = .func (.func 152) #[] #[ptr bg,ptr bb,ptr ba]∧Bx w Z bg 97 (ptr q)∧Bx w Z bb 3 (num b)∧Bx w Z ba 200 (ptr a)∧ad[k]? = some a
  | .val b i=>∃ bg bi bb,v = .func (.func 135) #[] #[ptr bg,ptr bi,ptr bb]∧Bx w Z bg 97 (ptr q)∧Bx w Z bi 3 (num i)∧Bx w Z bb 3 (num b)
  | .last b i=>∃ bg bi bb,v = .func (.func 118) #[] #[ptr bg,ptr bi,ptr bb]∧Bx w Z bg 97 (ptr q)∧Bx w Z bi 3 (num i)∧Bx w Z bb 3 (num b)
section
variable {w w':World} {Z Z' S:List Nat} {q:Nat} {ad:List Nat} {v:Value} {x:Stp}
theorem IsS.keep (h:IsS w Z q ad v x) (hB:∀ b t u,Bx w Z b t u→141≠t→Bx w' Z' b t u) (hR:∀ b l,MM.Row w b 44 l→b∉Z→MM.Row w' b 44 l∧b∉Z'):IsS w' Z' q ad v x:=by
  cases x with
  | put b x =>
    obtain ⟨bg,bb,bx,e,h1,h2,h3,h4⟩:=h;exact ⟨bg,bb,bx,e,hB _ _ _ h1 (by decide),hB _ _ _ h2 (by decide),(hR _ _ h3 h4).1,(hR _ _ h3 h4).2⟩
  | leap b op k =>
    obtain ⟨bg,bb,ba,bo,a,e,h1,h2,h3,h4,h5⟩:=h;exact ⟨bg,bb,ba,bo,a,e,hB _ _ _ h1 (by decide),hB _ _ _ h2 (by decide),hB _ _ _ h3 (by decide),h4,hB _ _ _ h5 (by decide)⟩
  | land b k =>
    obtain ⟨bg,bb,ba,a,e,h1,h2,h3,h4⟩:=h;exact ⟨bg,bb,ba,a,e,hB _ _ _ h1 (by decide),hB _ _ _ h2 (by decide),hB _ _ _ h3 (by decide),h4⟩
  | val b i =>
    obtain ⟨bg,bi,bb,e,h1,h2,h3⟩:=h;exact ⟨bg,bi,bb,e,hB _ _ _ h1 (by decide),hB _ _ _ h2 (by decide),hB _ _ _ h3 (by decide)⟩
  | last b i =>
    obtain ⟨bg,bi,bb,e,h1,h2,h3⟩:=h;exact ⟨bg,bi,bb,e,hB _ _ _ h1 (by decide),hB _ _ _ h2 (by decide),hB _ _ _ h3 (by decide)⟩
theorem IsS.far (h:IsS w Z q ad v x) (f:MM.Far S w w') (hS:∀ b∈S,b < w.heap.size→b∈Z):IsS w' Z q ad v x :=
  h.keep (fun _ _ _ hb _=>hb.far f hS) (fun b l hr hb=>⟨hr.far f (fun hm=>hb (hS _ hm hr.lt)),hb⟩)
theorem IsS.own (h:IsS w Z q ad v x) {base size n:Nat} {u:Value} {xs:List Value} (ho:w.ownsRow base 141 size u n xs) (f:MM.Far S w w') (hS:∀ b∈S,b < w.heap.size→u.ownBlock=some b):IsS w' Z q ad v x:=by
  refine h.keep (fun b t u' hb ht=>⟨hb.row.far f (fun hm=>?_),hb.out⟩) (fun b l hr hb=>⟨hr.far f (fun hm=>?_),hb⟩)
  · exact MM.own_row_ne ho hb.row ht (hS _ hm hb.row.lt)
  · exact MM.own_row_ne ho hr (by decide) (hS _ hm hr.lt)
theorem IsS.ads (h:IsS w Z q ad v x) (t:List Nat):IsS w Z q (ad++t) v x:=by
  cases x with
  | leap b op k =>
    obtain ⟨bg,bb,ba,bo,a,e,h1,h2,h3,h4,h5⟩:=h;exact ⟨bg,bb,ba,bo,a,e,h1,h2,h3,by rw [List.getElem?_append_left (List.getElem?_eq_some_iff.1 h4).1];exact h4,h5⟩
  | land b k =>
    obtain ⟨bg,bb,ba,a,e,h1,h2,h3,h4⟩:=h;exact ⟨bg,bb,ba,a,e,h1,h2,h3,by rw [List.getElem?_append_left (List.getElem?_eq_some_iff.1 h4).1];exact h4⟩
  | put b x=>exact h
  | val b i=>exact h
  | last b i=>exact h
theorem IsS.func (h:IsS w Z q ad v x):∃ f l,v = .func (.func f) #[] l:=by
  cases x with
  | put b x=>obtain ⟨bg,bb,bx,e,_⟩:=h;exact ⟨_,_,e⟩
  | leap b op k=>obtain ⟨bg,bb,ba,bo,a,e,_⟩:=h;exact ⟨_,_,e⟩
  | land b k=>obtain ⟨bg,bb,ba,a,e,_⟩:=h;exact ⟨_,_,e⟩
  | val b i=>obtain ⟨bg,bi,bb,e,_⟩:=h;exact ⟨_,_,e⟩
  | last b i=>obtain ⟨bg,bi,bb,e,_⟩:=h;exact ⟨_,_,e⟩
end
def Iss (w:World) (Z:List Nat) (q:Nat) (ad:List Nat) (vs:List Value) (xs:List Stp):Prop:=vs.length=xs.length∧∀ (k:Nat) (v:Value) (x:Stp),vs[k]? = some v→xs[k]? = some x→IsS w Z q ad v x
section
variable {w w':World} {Z Z' S:List Nat} {q:Nat} {ad:List Nat} {v:Value} {x:Stp} {vs us:List Value} {xs ys:List Stp}
theorem Iss.far (h:Iss w Z q ad vs xs) (f:MM.Far S w w') (hS:∀ b∈S,b < w.heap.size→b∈Z):Iss w' Z q ad vs xs:=⟨h.1,fun k v x h1 h2=>(h.2 k v x h1 h2).far f hS⟩
theorem Iss.own (h:Iss w Z q ad vs xs) {base size n:Nat} {u:Value} {zs:List Value} (ho:w.ownsRow base 141 size u n zs) (f:MM.Far S w w') (hS:∀ b∈S,b < w.heap.size→u.ownBlock=some b):Iss w' Z q ad vs xs:=⟨h.1,fun k v x h1 h2=>(h.2 k v x h1 h2).own ho f hS⟩
theorem Iss.ads (h:Iss w Z q ad vs xs) (t:List Nat):Iss w Z q (ad++t) vs xs:=⟨h.1,fun k v x h1 h2=>(h.2 k v x h1 h2).ads t⟩
theorem Iss.nil (w:World) (Z:List Nat) (q:Nat) (ad:List Nat):Iss w Z q ad [] []:=⟨rfl,fun k v x h=>by simp at h⟩
theorem Iss.cons (h:IsS w Z q ad v x) (hs:Iss w Z q ad vs xs):Iss w Z q ad (v::vs) (x::xs):=⟨by simp [hs.1],fun k a b h1 h2=>by
  cases k with
  | zero=>simp at h1 h2;subst h1;subst h2;exact h
  | succ k=>exact hs.2 k a b (by simpa using h1) (by simpa using h2)⟩
theorem Iss.app (h:Iss w Z q ad vs xs) (hs:Iss w Z q ad us ys):Iss w Z q ad (vs++us) (xs++ys):=⟨by simp [h.1,hs.1],fun k a b h1 h2=>by
  have hl:=h.1;by_cases hk:k < vs.length
  · rw [List.getElem?_append_left hk] at h1;rw [List.getElem?_append_left (by omega)] at h2;exact h.2 k a b h1 h2
  · rw [List.getElem?_append_right (by omega)] at h1 h2;rw [← hl] at h2;exact hs.2 _ a b h1 h2⟩
theorem Iss.one (h:IsS w Z q ad v x):Iss w Z q ad [v] [x]:=Iss.cons h (Iss.nil _ _ _ _)
theorem Iss.set (h:Iss w Z q ad vs xs) (hx:IsS w Z q ad v x) (k:Nat):Iss w Z q ad (vs.set k v) (xs.set k x):=⟨by simp [h.1],fun j a b h1 h2=>by
  have hl:=h.1;by_cases e:k=j
  · subst e;have hk:k < vs.length:=by have:=(List.getElem?_eq_some_iff.1 h1).1;simpa using this
    rw [List.getElem?_set_self hk] at h1;rw [List.getElem?_set_self (by omega)] at h2;injection h1 with h1;injection h2 with h2;subst h1;subst h2;exact hx
  · rw [List.getElem?_set_ne e] at h1 h2;exact h.2 j a b h1 h2⟩
end
def iC (l:List Ki):List Value:=l.flatMap KW.cel
def bC (bs:List Kb) (ks:List Value):List Value:=(bs.zip ks).flatMap fun x=>[num x.1.many,x.2]
theorem iC_len (l:List Ki):(iC l).length=l.length*4:=by
  induction l with
  | nil=>rfl
  | cons x r ih=>simp only [iC,List.flatMap_cons,List.length_append,List.length_cons] at ih ⊢;rw [ih];simp [KW.cel];omega
theorem iC_app (a b:List Ki):iC (a++b)=iC a++iC b:=by simp [iC]
theorem iC_one (x:Ki):iC [x]=KW.cel x:=by simp [iC]
theorem bC_cons (b:Kb) (bs:List Kb) (k:Value) (ks:List Value):bC (b::bs) (k::ks)=num b.many::k::bC bs ks:=rfl
theorem bC_app:∀ (bs:List Kb) (ks:List Value),ks.length=bs.length→∀ (b:Kb) (k:Value),bC (bs++[b]) (ks++[k])=bC bs ks++[num b.many,k]:=by
  intro bs;induction bs with
  | nil =>
    intro ks h b k;obtain rfl:ks=[]:=List.length_eq_zero_iff.1 h;rfl
  | cons a bs ih =>
    intro ks h b k;cases ks with
    | nil=>simp at h
    | cons c ks=>rw [List.cons_append,List.cons_append,bC_cons,bC_cons,ih ks (by simpa using h)];rfl
theorem bC_at:∀ (bs:List Kb) (ks:List Value),ks.length=bs.length→∀ (i:Nat) (b:Kb) (k:Value),bs[i]? = some b→ks[i]? = some k→(bC bs ks)[i*2]? = some (num b.many)∧(bC bs ks)[i*2+1]? = some k:=by
  intro bs;induction bs with
  | nil=>intro ks h i b k hb;simp at hb
  | cons a bs ih =>
    intro ks h i b k hb hk;cases ks with
    | nil=>simp at h
    | cons c ks =>
      rw [bC_cons];cases i with
      | zero=>simp at hb hk;subst hb;subst hk;exact ⟨rfl,rfl⟩
      | succ i =>
        have:=ih ks (by simpa using h) i b k (by simpa using hb) (by simpa using hk);rw [show (i+1)*2=i*2+1+1 by omega];exact ⟨by simpa using this.1,by simpa using this.2⟩
theorem bC_set:∀ (bs:List Kb) (ks:List Value),ks.length=bs.length→∀ (i:Nat) (l:List Ki) (k:Value) (b:Kb),bs[i]? = some b→bC (bs.set i ⟨b.many,l⟩) (ks.set i k)=(bC bs ks).set (i*2+1) k:=by
  intro bs;induction bs with
  | nil=>intro ks h i l k b hb;simp at hb
  | cons a bs ih =>
    intro ks h i l k b hb;cases ks with
    | nil=>simp at h
    | cons c ks =>
      cases i with
      | zero=>simp at hb;subst hb;rfl
      | succ i =>
        rw [List.set_cons_succ,List.set_cons_succ,bC_cons,bC_cons,ih ks (by simpa using h) i l k b (by simpa using hb),show (i+1)*2+1=(i*2+1)+1+1 by omega,List.set_cons_succ,List.set_cons_succ]
def Zof (q:Nat) (bv:Value) (ks:List Value) (ad:List Nat):List Nat:=q::(bv.ownBlock.toList++(ks.flatMap (fun k=>k.ownBlock.toList)++ad))
theorem mem_Z {q:Nat} {bv:Value} {ks:List Value} {ad:List Nat} {b:Nat}:b∈Zof q bv ks ad ↔ b=q∨bv.ownBlock=some b∨(∃ k∈ks,k.ownBlock=some b)∨b∈ad:=by
  unfold Zof;simp only [List.mem_cons,List.mem_append,List.mem_flatMap,Option.mem_toList]
structure Mg (base:Nat) (w:World) (q:Nat) (fv bv:Value) (ks:List Value) (ad:List Nat) (s:Gs):Prop where
  head:MM.Row w q 99 [fv,bv]
  qb:base≤q
  main:w.ownsRow base 42 2 bv s.bs.length (bC s.bs ks)
  klen:ks.length=s.bs.length
  kid:∀ (i:Nat) (k:Value) (b:Kb),ks[i]? = some k→s.bs[i]? = some b→w.ownsRow base 44 4 k b.l.length (iC b.l)
  apart:∀ (i j:Nat) (k k':Value) (g:Nat),ks[i]? = some k→ks[j]? = some k'→k.ownBlock=some g→k'.ownBlock=some g→i=j
  alen:ad.length=s.bx.length
  box:∀ (i a n:Nat),ad[i]? = some a→s.bx[i]? = some n→MM.Row w a 3 [num n]
  anod:ad.Nodup
  abase:∀ a∈ad,base≤a∧a < w.heap.size
section
variable {base:Nat} {w w':World} {q:Nat} {fv bv:Value} {ks:List Value} {ad:List Nat} {s:Gs} {S:List Nat}
theorem Mg.z (h:Mg base w q fv bv ks ad s):∀ b∈Zof q bv ks ad,b < w.heap.size∧base≤b:=by
  intro b hb
  rcases mem_Z.1 hb with rfl | hb | ⟨k,hk,hb⟩ | hb
  · exact ⟨h.head.lt,h.qb⟩
  · exact MM.own_lt h.main b hb
  · obtain ⟨i,hi⟩:=List.getElem?_of_mem hk;have hl:i < s.bs.length:=by rw [← h.klen];exact (List.getElem?_eq_some_iff.1 hi).1
    exact MM.own_lt (h.kid i k _ hi (List.getElem?_eq_getElem hl)) b hb
  · exact ⟨(h.abase b hb).2,(h.abase b hb).1⟩
theorem Mg.far (h:Mg base w q fv bv ks ad s) (f:MM.Far S w w') (hS:∀ b∈S,b < w.heap.size→b∉Zof q bv ks ad):Mg base w' q fv bv ks ad s:=by
  have hn:∀ b∈Zof q bv ks ad,b∉S:=fun b hb hm=>hS b hm (h.z b hb).1 hb
  refine ⟨h.head.far f (hn _ (mem_Z.2 (.inl rfl))),h.qb,MM.own_far h.main f (fun b hb=>hn b (mem_Z.2 (.inr (.inl hb)))),h.klen,fun i k b hk hb=>MM.own_far (h.kid i k b hk hb) f (fun g hg=>hn g (mem_Z.2 (.inr (.inr (.inl ⟨k,List.mem_of_getElem? hk,hg⟩))))),h.apart,h.alen,fun i a n ha hn'=>(h.box i a n ha hn').far f (hn a (mem_Z.2 (.inr (.inr (.inr (List.mem_of_getElem? ha)))))),h.anod,fun a ha=>⟨(h.abase a ha).1,Nat.lt_of_lt_of_le (h.abase a ha).2 f.size⟩⟩
theorem Mg.own (h:Mg base w q fv bv ks ad s) {bs2 size n:Nat} {u:Value} {zs:List Value} (ho:w.ownsRow bs2 141 size u n zs) (f:MM.Far S w w') (hS:∀ b∈S,b < w.heap.size→u.ownBlock=some b):Mg base w' q fv bv ks ad s:=by
  refine h.far f (fun b hb hl hm=>?_)
  have hu:=hS b hb hl
  rcases mem_Z.1 hm with rfl | hb2 | ⟨k,hk,hb2⟩ | hb2
  · exact MM.own_row_ne ho h.head (by decide) hu
  · exact MM.own_own_ne ho h.main (by decide) b hu hb2
  · obtain ⟨i,hi⟩:=List.getElem?_of_mem hk;have hl2:i < s.bs.length:=by rw [← h.klen];exact (List.getElem?_eq_some_iff.1 hi).1
    exact MM.own_own_ne ho (h.kid i k _ hi (List.getElem?_eq_getElem hl2)) (by decide) b hu hb2
  · obtain ⟨i,hi⟩:=List.getElem?_of_mem hb2;have hl2:i < s.bx.length:=by rw [← h.alen];exact (List.getElem?_eq_some_iff.1 hi).1
    exact MM.own_row_ne ho (h.box i b _ hi (List.getElem?_eq_getElem hl2)) (by decide) hu
end
def StepQ (w:World) (Z:List Nat) (q:Nat) (ad:List Nat) (x:Stp) (e:Ending) (w':World):Prop:=∃ v,e = .returned v∧IsS w' Z q ad v x∧MM.Far [] w w'
def RowQ (w:World) (Z:List Nat) (q:Nat) (ad:List Nat) (xs:List Stp) (e:Ending) (w':World):Prop:=∃ v vs,e = .returned v∧w'.ownsRow w.heap.size 141 1 v vs.length vs∧Iss w' Z q ad vs xs∧MM.Far [] w w'
def CallQ (base:Nat) (w:World) (q:Nat) (fv bv:Value) (ks:List Value) (ad:List Nat) (y:List Stp × Gs) (e:Ending) (w':World):Prop :=
  ∃ bv' ks' t v vs,e = .returned v∧Mg base w' q fv bv' ks' (ad++t) y.2∧w'.ownsRow w.heap.size 141 1 v vs.length vs∧Iss w' (Zof q bv' ks' (ad++t)) q (ad++t) vs y.1∧MM.Far (Zof q bv ks ad) w w'∧∀ b∈Zof q bv' ks' (ad++t),b∈Zof q bv ks ad∨w.heap.size≤b
end GW
end Go.Proofs.YtehgmmbdlnginaaGreatDoor
namespace Go.Proofs.YtehgmmbdlnginaaGreatDoor
open Go.RowKit
set_option linter.unusedVariables false
namespace GW
open KP SC GP
open EW (Sl Bx)
section
variable {w:World} {Z:List Nat} {q:Nat} {ad:List Nat}
theorem sz_alloc (w:World) (o:Obj):(w.alloc o).heap.size=w.heap.size+1:=by show (w.heap.push o).size=_;simp
theorem sz_alloc2 (w:World) (o p:Obj):((w.alloc o).alloc p).heap.size=w.heap.size+1+1:=by rw [sz_alloc,sz_alloc]
theorem sz_alloc3 (w:World) (o p r:Obj):(((w.alloc o).alloc p).alloc r).heap.size=w.heap.size+1+1+1:=by rw [sz_alloc,sz_alloc,sz_alloc]
theorem bx_new {k:Nat} (t:TypeId) (v:Value) (hk:w.heap.size=k) (hz:∀ b∈Z,b < w.heap.size):Bx (w.alloc (.cells #[v] t)) Z k t v:=by
  subst hk;exact ⟨MM.Row.new w t [v],fun hm=>Nat.lt_irrefl _ (hz _ hm)⟩
theorem row_new {k:Nat} (t:TypeId) (l:List Value) (hk:w.heap.size=k):MM.Row (w.alloc (.cells l.toArray t)) k t l:=by
  subst hk;exact MM.Row.new w t l
theorem z_alloc {o:Obj} (hz:∀ b∈Z,b < w.heap.size):∀ b∈Z,b < (w.alloc o).heap.size:=fun b hb=>Nat.lt_of_lt_of_le (hz b hb) ((MM.Far.refl [] w).alloc o).size
theorem z_far {S:List Nat} {w':World} (hz:∀ b∈Z,b < w.heap.size) (f:MM.Far S w w'):∀ b∈Z,b < w'.heap.size:=fun b hb=>Nat.lt_of_lt_of_le (hz b hb) f.size
theorem bx_alloc {b:Nat} {t:TypeId} {v:Value} (h:Bx w Z b t v) (o:Obj):Bx (w.alloc o) Z b t v:=h.far ((MM.Far.refl [] w).alloc o) (by simp)
end
section
variable (w:World) {Z:List Nat} (q:Nat) (ad:List Nat) (hz:∀ b∈Z,b < w.heap.size)
include hz
theorem put_any (b:Nat) (x:Ki):Calls Tryz.prog 116 #[ptr q,num b,KW.val x] w (StepQ w Z q ad (.put b x)):=by
  have h1:=bx_alloc (bx_alloc (bx_new 97 (ptr q) rfl hz) (.cells #[num b] 3)) (.cells (KW.cel x).toArray 44);have h2:=bx_alloc (bx_new 3 (num b) (sz_alloc w (.cells #[ptr q] 97)) (z_alloc hz)) (.cells (KW.cel x).toArray 44);have h3:=row_new 44 (KW.cel x) (sz_alloc2 w (.cells #[ptr q] 97) (.cells #[num b] 3));have h4:w.heap.size+1+1∉Z:=fun hm=>by have:=hz _ hm;omega
  have HI:Hid (IsS _ Z q ad _ (.put b x)):=Lib.hid ⟨_,_,_,rfl,h1,h2,h3,h4⟩;clear h1 h2 h3 h4 hz;unfold KW.cel at HI;go_enter Tryz.func116,Tryz.ntmps116
  go_wp2;go_ret
  exact ⟨_,rfl,HI.out,(((MM.Far.refl [] w).alloc _).alloc _).alloc _⟩
theorem value_any (b i:Nat):Calls Tryz.prog 117 #[ptr q,num b,num i] w (StepQ w Z q ad (.val b i)):=by
  have h1:=bx_alloc (bx_alloc (bx_new 97 (ptr q) rfl hz) (.cells #[num b] 3)) (.cells #[num i] 3);have h2:=bx_alloc (bx_new 3 (num b) (sz_alloc w (.cells #[ptr q] 97)) (z_alloc hz)) (.cells #[num i] 3);have h3:=bx_new 3 (num i) (sz_alloc2 w (.cells #[ptr q] 97) (.cells #[num b] 3)) (z_alloc (z_alloc hz));have HI:Hid (IsS _ Z q ad _ (.val b i)):=Lib.hid ⟨_,_,_,rfl,h1,h3,h2⟩;clear h1 h2 h3 hz;go_enter Tryz.func117,Tryz.ntmps117
  go_wp2;go_ret
  exact ⟨_,rfl,HI.out,(((MM.Far.refl [] w).alloc _).alloc _).alloc _⟩
theorem last_any (b i:Nat):Calls Tryz.prog 76 #[ptr q,num b,num i] w (StepQ w Z q ad (.last b i)):=by
  have h1:=bx_alloc (bx_alloc (bx_new 97 (ptr q) rfl hz) (.cells #[num b] 3)) (.cells #[num i] 3);have h2:=bx_alloc (bx_new 3 (num b) (sz_alloc w (.cells #[ptr q] 97)) (z_alloc hz)) (.cells #[num i] 3);have h3:=bx_new 3 (num i) (sz_alloc2 w (.cells #[ptr q] 97) (.cells #[num b] 3)) (z_alloc (z_alloc hz));have HI:Hid (IsS _ Z q ad _ (.last b i)):=Lib.hid ⟨_,_,_,rfl,h1,h3,h2⟩;clear h1 h2 h3 hz;go_enter Tryz.func76,Tryz.ntmps76
  go_wp2;go_ret
  exact ⟨_,rfl,HI.out,(((MM.Far.refl [] w).alloc _).alloc _).alloc _⟩
theorem leap_any (b:Nat) (op:Int) (k a:Nat) (ha:ad[k]? = some a):Calls Tryz.prog 141 #[ptr q,num b,.int .u8 op,ptr a] w (StepQ w Z q ad (.leap b op k)):=by
  have h1:=bx_alloc (bx_alloc (bx_alloc (bx_new 97 (ptr q) rfl hz) (.cells #[num b] 3)) (.cells #[.int .u8 op] 5)) (.cells #[ptr a] 200);have h2:=bx_alloc (bx_alloc (bx_new 3 (num b) (sz_alloc w (.cells #[ptr q] 97)) (z_alloc hz)) (.cells #[.int .u8 op] 5)) (.cells #[ptr a] 200);have h3:=bx_alloc (bx_new 5 (.int .u8 op) (sz_alloc2 w (.cells #[ptr q] 97) (.cells #[num b] 3)) (z_alloc (z_alloc hz))) (.cells #[ptr a] 200);have h4:=bx_new 200 (ptr a) (sz_alloc3 w (.cells #[ptr q] 97) (.cells #[num b] 3) (.cells #[.int .u8 op] 5)) (z_alloc (z_alloc (z_alloc hz)));have HI:Hid (IsS _ Z q ad _ (.leap b op k)):=Lib.hid ⟨_,_,_,_,a,rfl,h1,h2,h4,ha,h3⟩;clear h1 h2 h3 h4 hz ha;go_enter Tryz.func141,Tryz.ntmps141
  go_wp2;go_ret
  exact ⟨_,rfl,HI.out,((((MM.Far.refl [] w).alloc _).alloc _).alloc _).alloc _⟩
theorem land_any (b k a:Nat) (ha:ad[k]? = some a):Calls Tryz.prog 142 #[ptr q,num b,ptr a] w (StepQ w Z q ad (.land b k)):=by
  have h1:=bx_alloc (bx_alloc (bx_new 97 (ptr q) rfl hz) (.cells #[num b] 3)) (.cells #[ptr a] 200);have h2:=bx_alloc (bx_new 3 (num b) (sz_alloc w (.cells #[ptr q] 97)) (z_alloc hz)) (.cells #[ptr a] 200);have h3:=bx_new 200 (ptr a) (sz_alloc2 w (.cells #[ptr q] 97) (.cells #[num b] 3)) (z_alloc (z_alloc hz));have HI:Hid (IsS _ Z q ad _ (.land b k)):=Lib.hid ⟨_,_,_,a,rfl,h1,h2,h3,ha⟩;clear h1 h2 h3 hz ha;go_enter Tryz.func142,Tryz.ntmps142
  go_wp2;go_ret
  exact ⟨_,rfl,HI.out,(((MM.Far.refl [] w).alloc _).alloc _).alloc _⟩
end
end GW
end Go.Proofs.YtehgmmbdlnginaaGreatDoor
namespace Go.Proofs.YtehgmmbdlnginaaGreatDoor
open Go.RowKit
set_option linter.unusedVariables false
namespace GW
open LX SX RW6 EX KP SC GP
open EW (Sl Bx)
theorem steps_slice:Tryz.prog.underlying 101=some (.slice 141):=by kernel_rfl
theorem step_info:(Tryz.prog.info? 141).map (fun i=>(i.zero,i.size,i.bytes))=some (some .nilFunc,1,8):=by kernel_rfl
theorem far_cell {w w':World} {p:Addr} {v:Value} (f:MM.Far [] w w') (h:w.cell? p=some v) (hl:p.block < w.heap.size):w'.cell? p=some v:=(f.cell hl (by simp)).trans h
theorem far_app0 {w w':World} {b:Option Nat} {o:Obj} (h:(w.alloc o).grownBy w' b):MM.Far b.toList w w' :=
  ((MM.Far.refl b.toList w).alloc o).trans (MM.Far.of_grown (S:=b.toList) (a:=w.alloc o) h (by intro k hk _;simp [hk])) (fun k hk _=>hk)
theorem steps_push {ops:Array Oper} {rest:List Oper} {o:Oper} {a:Act} {Q:Exit→Act→World→Prop} {base:Nat} {w:World} {v:Value} {xs:List Value} {n:Nat} (news:List Value) (m:Nat)
    (hO:w.ownsRow base 141 1 v n xs) (hb:base≤w.heap.size) (hn:n≤100000000000) (hm:news.length=m) (hm2:m≤1000000) (h1:∀ u∈news,u.oneCell'=true) (hgd:o.guard=none) (s x:Operand)
    (ho:o.op = .call { callee:=.builtin .append,args:=#[s,x],argTypes:=#[101,101] })
    (hs:a.eval s=v) (hx:a.eval x = .slice (some ⟨w.heap.size,0,none⟩) m m)
    (h:∀ A c w',w'.ownsRow base 141 1 (.slice A (n+m) c) (n+m) (xs++news)→MM.Far v.ownBlock.toList w w'→wpList Tryz.prog ops Q rest (a.put o.dst (.slice A (n+m) c)) w') :
    wpList Tryz.prog ops Q (o::rest) a (w.alloc (.cells news.toArray 141)):=by
  have hF:MM.Far [] w (w.alloc (.cells news.toArray 141)):=(MM.Far.refl [] w).alloc _;have hO2:(w.alloc (.cells news.toArray 141)).ownsRow base 141 1 v n xs:=hO.alloc _;refine MO.wpList_append _ hgd s x 101 ho base 141 .nilFunc 1 8 steps_slice step_info rfl (by omega) v n xs hs hO2 (some ⟨w.heap.size,0,none⟩) m m news hx (by omega) (fun h=>by cases h) [] ?_ h1 ?_ ?_ (by have:=hF.size;omega) ?_
  · exact MM.Src.row (MM.Row.new w 141 news) (by simp) _ (fun j u hu=>hu)
  · simp only [maxLen];omega
  · omega
  · intro v' w' hv hg hat;obtain ⟨A,c,rfl,_⟩:=MO.form hv;exact h A c w' hv (far_app0 hg)
theorem own_new {w:World} {base:Nat} {t:TypeId} {l:List Value} {n:Nat} (hb:base≤w.heap.size) (hn:l.length=n) (hm:n≤maxLen):(w.alloc (.cells l.toArray t)).ownsRow base t 1 (.slice (some ⟨w.heap.size,0,none⟩) n n) n l :=
  MO.of_row (MM.Row.new w t l) hb (by omega) hm
def StI (w wr:World) (Z:List Nat) (q:Nat) (ad:List Nat) (v:Value) (xs:List Stp):Prop:=∃ vs,wr.ownsRow w.heap.size 141 1 v vs.length vs∧Iss wr Z q ad vs xs∧MM.Far [] w wr
theorem StI.nil (w:World) (Z:List Nat) (q:Nat) (ad:List Nat):StI w w Z q ad (.slice none 0 0) []:=⟨[],MO.none_ _ _ _ _,Iss.nil _ _ _ _,MM.Far.refl _ _⟩
theorem own_one {w:World} {Z:List Nat} {q:Nat} {ad:List Nat} {vs:List Value} {xs:List Stp} (h:Iss w Z q ad vs xs):∀ u∈vs,u.oneCell'=true:=by
  intro u hu;obtain ⟨k,hk⟩:=List.getElem?_of_mem hu;have hl:k < xs.length:=by rw [← h.1];exact (List.getElem?_eq_some_iff.1 hk).1
  obtain ⟨f,l,rfl⟩:=(h.2 k u _ hk (List.getElem?_eq_getElem hl)).func;rfl
theorem StI.push {w wr w1 w2:World} {Z:List Nat} {q:Nat} {ad:List Nat} {v v':Value} {xs ys:List Stp} {vs us:List Value} (ho:wr.ownsRow w.heap.size 141 1 v vs.length vs) (hi:Iss wr Z q ad vs xs) (hf:MM.Far [] w wr)
    (f1:MM.Far [] wr w1) (hu:Iss w1 Z q ad us ys) (ho2:w2.ownsRow w.heap.size 141 1 v' (vs.length+us.length) (vs++us)) (f2:MM.Far v.ownBlock.toList w1 w2):StI w w2 Z q ad v' (xs++ys):=by
  have ho1:=MM.own_far ho f1 (by simp);have hS:∀ b∈v.ownBlock.toList,b < w1.heap.size→v.ownBlock=some b:=fun b hb _=>by simpa using hb
  refine ⟨vs++us,by rw [List.length_append];exact ho2,((hi.far f1 (by simp)).own ho1 f2 hS).app (hu.own ho1 f2 hS),?_⟩
  refine (hf.trans f1 (by simp)).trans f2 (fun b hb hl=>?_)
  have:=(MM.own_lt ho1 b (by simpa using hb)).2;omega
section
variable (w:World) {Z:List Nat} (q:Nat) (ad:List Nat) (hz:∀ b∈Z,b < w.heap.size)
include hz
set_option maxHeartbeats 2000000 in
set_option maxRecDepth 20000 in
theorem seq_any (b:Nat) {l:List Nat} {A:Option Addr} {m c:Nat} (hm:l.length=m) (hl:m≤100000) (h:Sl w Z (.slice A m c) (ints l)) :
    Calls Tryz.prog 74 #[ptr q,num b,.slice A m c] w (RowQ w Z q ad (if l=[] then [.put b (ki 1 0 0 26)] else l.map (.val b))):=by
  have HL:=Lib.hid h;have HM:=Lib.hid hm;have HZ:=Lib.hid hz;by_cases h0:l=[]
  · subst h0;have hm0:m=0:=hm.symm;subst hm0;rw [if_pos rfl];have HC:=Lib.hid (put_any w q ad hz b (ki 1 0 0 26));clear h hm hz;go_enter Tryz.func74,Tryz.ntmps74
    go_wp2_with (first | (go_at_call 116;refine HC.out.mono ?_;rintro e w1 ⟨v,rfl,hI,hF⟩;obtain ⟨vf,vl,rfl⟩:=hI.func;have HI:=Lib.hid hI;have HF:=Lib.hid hF;clear hI hF))
    go_ret
    have FN:=(MM.Far.refl [] w1).alloc (.cells #[.func (.func vf) #[] vl] 141);exact ⟨_,[.func (.func vf) #[] vl],rfl,own_new (l:=[.func (.func vf) #[] vl]) HF.out.size rfl (by simp only [maxLen];omega),Iss.one (HI.out.far FN (by simp)),HF.out.trans FN (by simp)⟩
  · rw [if_neg h0];have hm0:((m:Int) == 0)=false:=by
      have:m≠0:=fun e=>h0 (List.length_eq_zero_iff.1 (hm.trans e))
      simpa using this
    have HV:=Lib.hid (fun wr (hz:∀ b∈Z,b < wr.heap.size) i=>value_any wr q ad hz b i);have H0:=Lib.hid (StI.nil w Z q ad);clear h hm hz h0;go_enter Tryz.func74,Tryz.ntmps74
    go_wp2_with (fail)
    go_loopw [7,20] (fun s7 s20 wr=>∃ (k:Nat) (A:Option Addr) (c:Nat),k≤m∧s7 = .slice A k c∧s20=num k∧Hid (StI w wr Z q ad (.slice A k c) ((l.take k).map (.val b)))) (fun _ s20 _=>m - (intOf s20).toNat)
    case atStart=>exact ⟨0,none,0,by omega,rfl,rfl,H0⟩
    case round =>
      obtain ⟨k,A5,c5,hk,rfl,rfl,hH⟩:=hrel;obtain ⟨vs,hO,hI,hF⟩:=hH.out;have hvs:vs.length=k:=by
        obtain ⟨A6,c6,e,_⟩:=MO.form hO;injection e with _ e _;exact e.symm
      have HVS:=Lib.hid hvs;by_cases hlt:k < m
      · have hk2:k < l.length:=by rw [HM.out];exact hlt
        have HT:Hid (l.take (k+1)=l.take k++[l[k]]):=Lib.hid (by rw [List.take_add_one,List.getElem?_eq_getElem hk2];rfl);obtain ⟨A',c',e,hc1,hc2,hc3⟩:=HL.out.far hF (by simp);injection e with e1 e2 e3;subst e1 e3;obtain ⟨g,o,rfl,hgz,hg,cc⟩:=hc3 k (.int .i64 ((l[k]:Nat):Int)) (by unfold ints;rw [List.getElem?_map,List.getElem?_eq_getElem hk2];rfl);have HC:=Lib.hid (HV.out wr (z_far HZ.out hF) l[k]);generalize l[k]=i at *;rw [hvs] at hO;have HO:=Lib.hid hO;have HI:=Lib.hid hI;have HF:=Lib.hid hF;have hwb:=hF.size;clear hk2 e2 hc1 hc2 hc3 hgz hg hO hI hF hH H0 hvs
        go_wp2_with (first
          | (go_at_call 117;refine HC.out.mono ?_;rintro e w1 ⟨v,rfl,hIv,hF1⟩;obtain ⟨vf,vl,rfl⟩:=hIv.func;have HIv:=Lib.hid hIv;have HF1:=Lib.hid hF1;have hw1:=Nat.le_trans hwb hF1.size;have HO1:=Lib.hid (MM.own_far HO.out hF1 (by simp));clear hIv hF1)
          | (at_builtin;refine steps_push [.func (.func vf) #[] vl] 1 HO1.out hw1 (by omega) rfl (by omega) (by intro u hu;rw [List.mem_singleton] at hu;subst hu;rfl) rfl (.tmp 24) (.tmp 29) rfl rfl rfl ?_;intro A7 c7 w2 hO2 hF2;have HN:=Lib.hid (StI.push (vs:=vs) (by rw [HVS.out];exact HO.out) HI.out HF.out HF1.out (Iss.one HIv.out) (by rw [HVS.out];exact hO2) hF2);clear hO2 hF2))
        go_roundw
        case rel=>exact ⟨k+1,A7,c7,by omega,rfl,by go_num,Lib.hid (by rw [HT.out,List.map_append];exact HN.out)⟩
        case measure=>simp [intOf];omega
      · obtain rfl:k=m:=by omega
        have HQ:=Lib.hid (show RowQ w Z q ad (l.map (.val b)) (.returned (.slice A5 k c5)) wr from ⟨_,vs,rfl,hO,by rw [← HM.out,List.take_length] at hI;exact hI,hF⟩);clear hO hI hF hH H0
        go_wp2_with (fail)
        go_ret
        exact HQ.out
end
end GW
end Go.Proofs.YtehgmmbdlnginaaGreatDoor
namespace Go.Proofs.YtehgmmbdlnginaaGreatDoor
open Go.RowKit
set_option linter.unusedVariables false
namespace SR
open LX SX RW6 EX SC SM
open EW (Sl Zx Fr ptr num strs cell_far forms_slice form_info own_form sz_alloc)
open RX (Nd)
structure Dh where
  dv:Value
  lv:Value
  ov:Value
  own:List ByteArray
  K:List ByteArray
structure Rs (w0 w:World) (E:List Nat) (q:Nat) (h:Dh) (nv rv:Value) (bad er:Int) (N:List ByteArray) (rs:List (Rf × Value)):Prop where
  far:MM.Far [] w0 w
  qb:w0.heap.size≤q
  head:MM.Row w q 92 [h.dv,h.lv,h.ov,nv,rv,.int .i64 bad,.int .i64 er]
  row:w.ownsRow w0.heap.size 39 8 rv rs.length (rfC rs)
  nam:w.ownsRow w0.heap.size 9 1 nv N.length (strs N)
  own:w.ownsRow w0.heap.size 9 1 h.ov h.own.length (strs h.own)
  rd:∀ x∈rs,Sl w (E++Zx q rv) x.2 (ints x.1.l)
  ez:∀ b∈E,b < w.heap.size∧w0.heap.size≤b∧b∉Zx q rv∧nv.ownBlock≠some b∧h.ov.ownBlock≠some b
section
variable {w0 w w1 w2:World} {E:List Nat} {q:Nat} {h:Dh} {nv rv rv1:Value} {bad er:Int} {N:List ByteArray} {rs:List (Rf × Value)}
theorem Rs.to (s:Rs w0 w E q h nv rv bad er N rs) (f:MM.Far [] w w1):Rs w0 w1 E q h nv rv bad er N rs :=
  ⟨s.far.trans f (by simp),s.qb,s.head.far f (by simp),MM.own_far s.row f (by simp),MM.own_far s.nam f (by simp),MM.own_far s.own f (by simp),fun x hx=>(s.rd x hx).far f (by simp),fun b hb=>by
    obtain ⟨h1,h2⟩:=s.ez b hb;exact ⟨Nat.lt_of_lt_of_le h1 f.size,h2⟩⟩
theorem Rs.low (s:Rs w0 w E q h nv rv bad er N rs):∀ b∈Zx q rv,w0.heap.size≤b:=fun b hb=>by
  rcases List.mem_cons.1 hb with rfl | hb
  · exact s.qb
  · exact (MM.own_lt s.row b (by simpa using hb)).2
theorem Rs.z (s:Rs w0 w E q h nv rv bad er N rs):∀ b∈Zx q rv,b < w.heap.size:=fun b hb=>by
  rcases List.mem_cons.1 hb with rfl | hb
  · exact s.head.lt
  · exact (MM.own_lt s.row b (by simpa using hb)).1
theorem off_q {e:TypeId} {size n base:Nat} {v:Value} {xs vs:List Value} (hH:MM.Row w q 92 vs) (ho:w.ownsRow base e size v n xs) (ht:e≠92):∀ b,v.ownBlock=some b→b∉[q]:=by
  intro b hb hm;have:b=q:=by simpa using hm
  subst this;exact MM.own_row_ne ho hH ht hb
theorem off_own {e e':TypeId} {size size' n n' base base':Nat} {v v':Value} {xs xs':List Value} (h:w.ownsRow base e size v n xs) (h':w.ownsRow base' e' size' v' n' xs') (ht:e≠e'):∀ b,v.ownBlock=some b→b∉v'.ownBlock.toList:=fun b hb hm =>
  MM.own_own_ne h h' ht b hb (by simpa using hm)
theorem Rs.put {rv':Value} (x:Rf) (hx:Value) (s:Rs w0 w E q h nv rv bad er N rs) (hl:Sl w (E++Zx q rv) hx (ints x.l))
    (hr:w1.ownsRow w0.heap.size 39 8 rv' (rs.length+1) (rfC rs++rfL (x,hx))) (f:MM.Far rv.ownBlock.toList w w1) (hat:rv'.ownBlock=rv.ownBlock∨∃ b,rv'.ownBlock=some b∧w.heap.size≤b) :
    Rs w0 (w1.setCell ⟨q,4,none⟩ rv') E q h nv rv' bad er N (rs++[(x,hx)])∧Fr w (w1.setCell ⟨q,4,none⟩ rv') q rv rv':=by
  have hH:MM.Row w1 q 92 [h.dv,h.lv,h.ov,nv,rv,.int .i64 bad,.int .i64 er]:=s.head.far f (fun hm=>MM.own_row_ne s.row s.head (by decide) (by simpa using hm));have g:=cell_far w1 q 4 rv';have hN1:=MM.own_far s.nam f (off_own s.nam s.row (by decide));have hO1:=MM.own_far s.own f (off_own s.own s.row (by decide));have f2:MM.Far (Zx q rv) w (w1.setCell ⟨q,4,none⟩ rv'):=(f.mono (fun b hb _=>List.mem_cons_of_mem _ hb)).trans g (fun b hb _=>by simp at hb;simp [hb]);have hF:Fr w (w1.setCell ⟨q,4,none⟩ rv') q rv rv':=⟨f2,fun b hb=>by
    rcases List.mem_cons.1 hb with rfl | hb
    · exact .inl (List.mem_cons_self ..)
    · have hb:rv'.ownBlock=some b:=by simpa using hb
      rcases hat with e | ⟨g,e,hg⟩
      · exact .inl (List.mem_cons_of_mem _ (by rw [← e];simpa using hb))
      · rw [e] at hb;injection hb with hb;exact .inr (by omega)⟩
  refine ⟨⟨s.far.trans f2 (fun b hb hl=>by have:=s.low b hb;omega),s.qb,hH.put 4 rv',?_,MM.own_far hN1 g (off_q hH hN1 (by decide)),MM.own_far hO1 g (off_q hH hO1 (by decide)),fun y hy=>?_,fun b hb=>?_⟩,hF⟩
  · rw [List.length_append,rfC_snoc];exact MM.own_far hr g (off_q hH hr (by decide))
  · rcases List.mem_append.1 hy with hy | hy
    · exact hF.sl (s.rd y hy)
    · have:y=(x,hx):=by simpa using hy
      subst this;exact hF.sl hl
  · obtain ⟨h1,h2,h3,h4⟩:=s.ez b hb;refine ⟨Nat.lt_of_lt_of_le h1 f2.size,h2,fun hm=>?_,h4⟩
    rcases hF.new b hm with h5 | h5
    · exact h3 h5
    · omega
theorem Rs.name {nv':Value} {N':List ByteArray} (s:Rs w0 w E q h nv rv bad er N rs) (hr:w1.ownsRow w0.heap.size 9 1 nv' N'.length (strs N')) (f:MM.Far [] w w1) (hat:∀ b,nv'.ownBlock=some b→nv.ownBlock=some b∨w.heap.size≤b) :
    Rs w0 (w1.setCell ⟨q,3,none⟩ nv') E q h nv' rv bad er N' rs∧Fr w (w1.setCell ⟨q,3,none⟩ nv') q rv rv:=by
  have k:=s.to f;have g:=cell_far w1 q 3 nv';have f2:MM.Far (Zx q rv) w (w1.setCell ⟨q,3,none⟩ nv'):=(f.mono (fun b hb _=>by cases hb)).trans g (fun b hb _=>by simp at hb;simp [hb,Zx]);have hF:Fr w (w1.setCell ⟨q,3,none⟩ nv') q rv rv:=⟨f2,fun _ h=>.inl h⟩
  refine ⟨⟨s.far.trans f2 (fun b hb hl=>by have:=s.low b hb;omega),s.qb,k.head.put 3 nv',MM.own_far k.row g (off_q k.head k.row (by decide)),MM.own_far hr g (off_q k.head hr (by decide)),MM.own_far k.own g (off_q k.head k.own (by decide)),fun y hy=>hF.sl (s.rd y hy),fun b hb=>?_⟩,hF⟩
  obtain ⟨h1,h2,h3,h4,h5⟩:=s.ez b hb;refine ⟨Nat.lt_of_lt_of_le h1 f2.size,h2,h3,fun e=>?_,h5⟩
  rcases hat b e with e | e
  · exact h4 e
  · omega
theorem Rs.bad_ (s:Rs w0 w E q h nv rv bad er N rs) (a e:Int):Rs w0 ((w.setCell ⟨q,5,none⟩ (.int .i64 a)).setCell ⟨q,6,none⟩ (.int .i64 e)) E q h nv rv a e N rs∧Fr w ((w.setCell ⟨q,5,none⟩ (.int .i64 a)).setCell ⟨q,6,none⟩ (.int .i64 e)) q rv rv:=by
  have g:MM.Far [q] w ((w.setCell ⟨q,5,none⟩ (.int .i64 a)).setCell ⟨q,6,none⟩ (.int .i64 e)):=(cell_far w q 5 (.int .i64 a)).setCell (by simp) _;have f2:MM.Far (Zx q rv) w ((w.setCell ⟨q,5,none⟩ (.int .i64 a)).setCell ⟨q,6,none⟩ (.int .i64 e)):=g.mono (fun b hb _=>by simp at hb;simp [hb,Zx]);have hF:Fr w ((w.setCell ⟨q,5,none⟩ (.int .i64 a)).setCell ⟨q,6,none⟩ (.int .i64 e)) q rv rv:=⟨f2,fun _ h=>.inl h⟩
  refine ⟨⟨s.far.trans f2 (fun b hb hl=>by have:=s.low b hb;omega),s.qb,(s.head.put 5 _).put 6 _,MM.own_far s.row g (off_q s.head s.row (by decide)),MM.own_far s.nam g (off_q s.head s.nam (by decide)),MM.own_far s.own g (off_q s.head s.own (by decide)),fun y hy=>hF.sl (s.rd y hy),fun b hb=>?_⟩,hF⟩
  obtain ⟨h1,h2⟩:=s.ez b hb;exact ⟨Nat.lt_of_lt_of_le h1 f2.size,h2⟩
def PutQ (w0 w:World) (E:List Nat) (q:Nat) (h:Dh) (nv rv:Value) (bad er:Int) (N:List ByteArray) (rs:List (Rf × Value)) (f:Rf) (e:Ending) (w':World):Prop :=
  e = .returned (.int .i64 ((rs.length:Nat):Int))∧∃ rv' x,x.1=f∧Rs w0 w' E q h nv rv' bad er N (rs++[x])∧Fr w w' q rv rv'
set_option maxHeartbeats 4000000 in
set_option maxRecDepth 20000 in
theorem put_any (s:Rs w0 w E q h nv rv bad er N rs) (hn:rs.length≤1000000000) (f:Rf) {B:Option Addr} {nl d:Nat} (hl:Sl w (E++Zx q rv) (.slice B nl d) (ints f.l)) :
    Calls Tryz.prog 67 #[ptr q,.agg #[.int .u8 f.kind,.int .i64 f.at_,.int .i64 f.n,.int .i64 f.a,.string f.s,.slice none 0 0,.int .u64 f.w,.slice B nl d]] w (PutQ w0 w E q h nv rv bad er N rs f):=by
  obtain ⟨rA,rc,rfl⟩:=own_form w0 s.row;have hone:=rf_one f B nl d;obtain ⟨OB,hOB⟩:∃ o:Obj,.cells #[.int .u8 f.kind,.int .i64 f.at_,.int .i64 f.n,.int .i64 f.a,.string f.s,.slice none 0 0,.int .u64 f.w,.slice B nl d] 39=o:=⟨_,rfl⟩
  have F0:=(MM.Far.refl [] w).alloc OB;have hD0:=s.to F0;have hl0:=hl.far F0 (by simp);have c1:=hD0.head.at (i:=4) rfl;have f1:=hD0.head.frozen 4;have hB:MM.Row (w.alloc OB) w.heap.size 39 [.int .u8 f.kind,.int .i64 f.at_,.int .i64 f.n,.int .i64 f.a,.string f.s,.slice none 0 0,.int .u64 f.w,.slice B nl d]:=by
    rw [← hOB];exact MM.Row.new w 39 [.int .u8 f.kind,.int .i64 f.at_,.int .i64 f.n,.int .i64 f.a,.string f.s,.slice none 0 0,.int .u64 f.w,.slice B nl d]
  have z0:=hB.at (i:=0) rfl;have z1:=hB.at (i:=1) rfl;have z2:=hB.at (i:=2) rfl;have z3:=hB.at (i:=3) rfl;have z4:=hB.at (i:=4) rfl;have z5:=hB.at (i:=5) rfl;have z6:=hB.at (i:=6) rfl;have z7:=hB.at (i:=7) rfl;have HD:=Lib.hid hD0;have HLL:=Lib.hid hl0;have HF0:=Lib.hid F0;have HONE:=Lib.hid hone;have hbW:=HD.out.far.size;clear s hl hB F0 hD0 hl0 hone;unfold ptr;subst hOB;go_enter Tryz.func67,Tryz.ntmps67
  go_wp2;generalize hWE:w.alloc (.cells #[.int .u8 f.kind,.int .i64 f.at_,.int .i64 f.n,.int .i64 f.a,.string f.s,.slice none 0 0,.int .u64 f.w,.slice B nl d] 39)=W at *;have c1a:=(HD.out.to ((MM.Far.refl [] W).alloc (.cells #[.int .u8 f.kind,.int .i64 f.at_,.int .i64 f.n,.int .i64 f.a,.string f.s,.slice none 0 0,.int .u64 f.w,.slice B nl d] 39))).head.at (i:=4) rfl
  go_cut [] (fun wx=>∃ rv' x,x.1=f∧Rs w0 wx E q h nv rv' bad er N (rs++[x])∧Fr w wx q (.slice rA rs.length rc) rv')
  case first =>
    go_region_law (
      refine MO.step_append ?_ (.tmp 9) (.tmp 11) 23 ?_ w0.heap.size 39 _ 8 104 forms_slice form_info rfl (by omega) (.slice rA rs.length rc) rs.length (rfC rs) ?_ ?_ (some ⟨W.heap.size,0,none⟩) 1 1 (rfL (f,.slice B nl d)) ?_ rfl (fun h=>by cases h) [] ?_ HONE.out ?_ ?_ ?_ ?_
      · rfl
      · rfl
      · rfl
      · exact HD.out.row.alloc _
      · rfl
      · exact (MM.Src.row (MM.Row.new W 39 (rfL (f,.slice B nl d))) (by simp) _ (fun j u hu=>hu))
      · simp only [maxLen];omega
      · omega
      · simp;omega
      intro v2 w2 hv2 hg2 hat2;obtain ⟨A2,c2x,rfl⟩:=own_form w0 hv2;have hat3:(Value.slice A2 (rs.length+1) c2x).ownBlock=(Value.slice rA rs.length rc).ownBlock∨∃ b,(Value.slice A2 (rs.length+1) c2x).ownBlock=some b∧W.heap.size≤b:=hat2.imp id (fun e=>⟨_,e,((MM.Far.refl [] W).alloc _).drew.size⟩);have F2:MM.Far (Value.slice rA rs.length rc).ownBlock.toList W w2:=RC6.far_app hg2;have HH2:Hid (MM.Row w2 q 92 _):=Lib.hid (HD.out.head.far F2 (fun hm=>MM.own_row_ne HD.out.row HD.out.head (by decide) (by simpa using hm)));have d1W:=HH2.out.at (i:=4) rfl;have e1W:=HH2.out.frozen 4;have HN:=Lib.hid (HD.out.put (w1:=w2) f (.slice B nl d) HLL.out hv2 F2 hat3);clear hg2 hv2 hat2 hat3 F2)
    all_goals
      go_wp2_with fail
      go_meet
      exact ⟨_,_,rfl,HN.out.1,(Fr.quiet HF0.out).trans HN.out.2⟩
  case rest =>
    obtain ⟨rv',x,hx,hR,hFr⟩:=hcut;obtain ⟨A3,c3,rfl⟩:=own_form w0 hR.row;have HR:=Lib.hid hR;have HFr:=Lib.hid hFr;have HX:=Lib.hid hx;have k1:=hR.head.at (i:=4) rfl;have hlen:(rs++[x]).length=rs.length+1:=by simp
    rw [hlen] at k1;have hw1:IntKind.i64.wrap (rs.length:Int)=(rs.length:Int):=IntWalk.i64_in _ (by omega);have hw2:IntKind.i64.wrap ((rs.length:Int)+1 - 1)=(rs.length:Int):=by rw [Int.add_sub_cancel];exact hw1
    clear hR hFr hx z0 z1 z2 z3 z4 z5 z6 z7 c1 f1 c1a HD HLL HF0 HONE hWE hlen;go_wp2;go_ret
    exact ⟨rfl,_,x,HX.out,HR.out,HFr.out⟩
end
def Sst (w0 w:World) (E:List Nat) (q:Nat) (h:Dh) (rv:Value) (X:Except Er Su) (B:Nat):Prop :=
  ∃ nv bad er N rs,Rs w0 w E q h nv rv bad er N rs∧rs.length≤B∧Nk h.K N∧match X with
    | .ok s=>bad = -1∧N=s.1∧rs.map (·.1)=s.2
    | .error x=>bad=x.1∧0≤x.1∧er=x.2.1∧N=x.2.2
def OutS (w0 w:World) (E:List Nat) (q:Nat) (h:Dh) (rv:Value) (Y:Except Er (Su × Nat)) (B:Nat) (e:Ending) (w':World):Prop :=
  ∃ (v:Nat) (rv':Value),e = .returned (num ((v:Nat):Int))∧Fr w w' q rv rv'∧Sst w0 w' E q h rv' (fstS Y) B∧∀ s k,Y = .ok (s,k)→v=k
section
variable {w0 w w1 w2:World} {E:List Nat} {q:Nat} {h:Dh} {rv rv1:Value} {X:Except Er Su} {Y:Except Er (Su × Nat)} {B B':Nat} {e:Ending}
theorem Sst.mono (s:Sst w0 w E q h rv X B) (hB:B≤B'):Sst w0 w E q h rv X B':=by
  obtain ⟨nv,bad,er,N,rs,h1,h2,h3⟩:=s;exact ⟨nv,bad,er,N,rs,h1,by omega,h3⟩
theorem Sst.to (s:Sst w0 w E q h rv X B) (f:MM.Far [] w w1):Sst w0 w1 E q h rv X B:=by
  obtain ⟨nv,bad,er,N,rs,h1,h2,h3⟩:=s;exact ⟨nv,bad,er,N,rs,h1.to f,h2,h3⟩
theorem OutS.mono (s:OutS w0 w E q h rv Y B e w1) (hB:B≤B'):OutS w0 w E q h rv Y B' e w1:=by
  obtain ⟨v,rv',h1,h2,h3,h4⟩:=s;exact ⟨v,rv',h1,h2,h3.mono hB,h4⟩
theorem OutS.from (s:OutS w0 w1 E q h rv1 Y B e w2) (f:Fr w w1 q rv rv1):OutS w0 w E q h rv Y B e w2:=by
  obtain ⟨v,rv',h1,h2,h3,h4⟩:=s;exact ⟨v,rv',h1,f.trans h2,h3,h4⟩
theorem Sst.low (s:Sst w0 w E q h rv X B):MM.Far [] w0 w∧(∀ b∈Zx q rv,b < w.heap.size)∧w0.heap.size≤q:=by
  obtain ⟨nv,bad,er,N,rs,h1,_⟩:=s;exact ⟨h1.far,h1.z,h1.qb⟩
theorem Sst.zlow (s:Sst w0 w E q h rv X B):∀ b∈E++Zx q rv,b < w.heap.size∧w0.heap.size≤b:=by
  obtain ⟨nv,bad,er,N,rs,h1,_⟩:=s;intro b hb
  rcases List.mem_append.1 hb with hb | hb
  · exact ⟨(h1.ez b hb).1,(h1.ez b hb).2.1⟩
  · exact ⟨h1.z b hb,h1.low b hb⟩
theorem Sst.ezE (s:Sst w0 w E q h rv X B):∀ b∈E,b < w.heap.size∧w0.heap.size≤b∧b∉Zx q rv:=by
  obtain ⟨nv,bad,er,N,rs,h1,_⟩:=s;intro b hb;obtain ⟨a1,a2,a3,_⟩:=h1.ez b hb;exact ⟨a1,a2,a3⟩
theorem Sst.cells (s:Sst w0 w E q h rv X B):∃ nv bad er,MM.Row w q 92 [h.dv,h.lv,h.ov,nv,rv,.int .i64 bad,.int .i64 er]∧match X with
    | .ok _=>bad = -1
    | .error x=>bad=x.1∧0≤x.1∧er=x.2.1:=by
  obtain ⟨nv,bad,er,N,rs,h1,h2,h3,h4⟩:=s;refine ⟨nv,bad,er,h1.head,?_⟩
  cases X with
  | ok s=>exact h4.1
  | error x=>exact ⟨h4.1,h4.2.1,h4.2.2.1⟩
theorem sput_any (s:Sst w0 w E q h rv X B) (hB:B≤1000000000) (f:Rf) {A:Option Addr} {nl d:Nat} (hl:Sl w (E++Zx q rv) (.slice A nl d) (ints f.l)) :
    Calls Tryz.prog 67 #[ptr q,.agg #[.int .u8 f.kind,.int .i64 f.at_,.int .i64 f.n,.int .i64 f.a,.string f.s,.slice none 0 0,.int .u64 f.w,.slice A nl d]] w (OutS w0 w E q h rv (thn X fun s=>.ok ((s.1,s.2++[f]),s.2.length)) (B+1)):=by
  obtain ⟨nv,bad,er,N,rs,h1,h2,h3,h4⟩:=s;refine (put_any h1 (by omega) f hl).mono fun e w' ⟨he,rv',x,hx,hR,hF⟩=>?_
  refine ⟨rs.length,rv',he,hF,⟨nv,bad,er,N,rs++[x],hR,by rw [List.length_append];simp;omega,h3,?_⟩,?_⟩
  · cases X with
    | error a=>exact h4
    | ok st=>exact ⟨h4.1,h4.2.1,by rw [List.map_append,h4.2.2];simp [hx]⟩
  · cases X with
    | error a=>intro st k e;cases e
    | ok st =>
      intro st' k e;injection e with e;injection e with _ e;rw [← e,← h4.2.2,List.length_map]
theorem sconst_any (s:Sst w0 w E q h rv X B) (hB:B≤1000000000) (a k:Int) :
    Calls Tryz.prog 63 #[ptr q,num a,.int .u64 k] w (OutS w0 w E q h rv (thn X fun s=>.ok ((s.1,s.2++[cst a k]),s.2.length)) (B+1)):=by
  have HC:=Lib.hid (sput_any s hB (cst a k) (Sl.nil _ _));clear s;unfold cst at HC;simp only at HC
  unfold LX.emp at HC;have HE:Hid ((thn X fun s=>.ok ((s.1,s.2++[cst a k]),s.2.length))=(thn X fun s:Su=>.ok ((s.1,s.2++[({ kind:=13,at_:=a,n:=0,a:=0,s:=⟨#[]⟩,w:=k,l:=[] }:Rf)]),s.2.length))):=Lib.hid rfl;rw [HE.out];clear HE;unfold num ptr at *;go_enter Tryz.func63,Tryz.ntmps63
  go_wp2_with (first
    | (go_at_call 67;(with_reducible refine HC.out.mono ?_);rintro e w1 hQ;have HQ:=Lib.hid hQ;obtain ⟨k1,fv1,he,-⟩:=hQ;(replace he:e = .returned (.int .i64 ((k1:Nat):Int)):=he);subst he))
  go_ret
  exact HQ.out
end
end SR
end Go.Proofs.YtehgmmbdlnginaaGreatDoor
