/-
  Several texts in one: MemAll,WordAll,CodePlain.
-/
import Derived.Test.YtehgmmbdlnginaaGreatDoorProg
import Derived.Below
import Derived.Laws.OwnMore
import Derived.Laws.Rows
import Derived.Deep.Draws
import Derived.Deep.OwnRows
import Derived.Laws.CopyOwn
import Derived.WalkKit
import Derived.Maps.AppendAt
import Derived.Deep.AppendLies
import Derived.Deep.RegionLaw
import Derived.Deep.Slices
import Derived.Deep.Fields
import Derived.ChangeSame
import Derived.ChangeOld
import Derived.OpenShut
import Derived.Lib.Strings
import Derived.Lib.Walk
import Derived.Lib.BufferWrite
import Derived.Lib.UnsafeStr
import Derived.Lib.Hide
import Derived.Laws.MakeOwn
namespace Go.Proofs.YtehgmmbdlnginaaGreatDoor
open Go.RowKit
namespace MM
def Row (w:World) (b:Nat) (t:TypeId) (l:List Value):Prop:=w.heap[b]? = some (.cells l.toArray t (0,0))
section
variable {w w':World} {b:Nat} {t:TypeId} {l:List Value}
theorem Row.lt (h:Row w b t l):b < w.heap.size:=by
  unfold Row at h
  rcases Nat.lt_or_ge b w.heap.size with hb | hb
  · exact hb
  · rw [Array.getElem?_eq_none hb] at h;cases h
theorem Row.cell (h:Row w b t l) (i:Nat):w.cell? ⟨b,i,none⟩=l[i]?:=by
  unfold Row at h;simp [World.cell?,h]
theorem Row.at (h:Row w b t l) {i:Nat} {v:Value} (hv:l[i]? = some v):w.cell? ⟨b,i,none⟩=some v:=(h.cell i).trans hv
theorem Row.frozen (h:Row w b t l) (i:Nat):w.frozen? ⟨b,i,none⟩=false:=by
  unfold Row at h;simp [World.frozen?,h]
theorem Row.of_block (h:Row w b t l) (e:w'.heap[b]? = w.heap[b]?):Row w' b t l:=e.trans h
theorem Row.new (w:World) (t:TypeId) (l:List Value):Row (w.alloc (.cells l.toArray t)) w.heap.size t l :=
  heap_alloc_new w _
theorem Row.drew (h:Row w b t l):Row w.drew b t l:=h
theorem Row.drewN (h:Row w b t l) (n:Nat):Row (w.drewN n) b t l:=h
theorem Row.alloc (h:Row w b t l) (o:Obj):Row (w.alloc o) b t l:=h.of_block (Below.heap_alloc w o b h.lt)
theorem Row.put (h:Row w b t l) (i:Nat) (u:Value):Row (w.setCell ⟨b,i,none⟩ u) b t (l.set i u):=by
  unfold Row at h ⊢;simp [World.setCell,Array.getElem?_modify,h]
theorem Row.other (h:Row w b t l) {p:Addr} (hp:b≠p.block) (u:Value):Row (w.setCell p u) b t l:=h.of_block (Below.heap_setCell w p u b hp)
theorem Row.ne {b':Nat} {t':TypeId} {l':List Value} (h:Row w b t l) (h':Row w b' t' l') (ht:t≠t'):b≠b':=by
  intro e;unfold Row at h h';rw [← e,h] at h';simp only [Option.some.injEq,Obj.cells.injEq] at h'
  exact ht h'.2.1
end
structure Far (S:List Nat) (a w:World):Prop where
  os:w.os=a.os
  tape:w.tape=a.tape
  output:w.output=a.output
  size:a.heap.size≤w.heap.size
  block:∀ k,k < a.heap.size→k∉S→w.heap[k]? = a.heap[k]?
section
variable {S S':List Nat} {a w w':World}
theorem Far.refl (S:List Nat) (w:World):Far S w w:=⟨rfl,rfl,rfl,Nat.le_refl _,fun _ _ _=>rfl⟩
theorem Far.trans (h:Far S a w) (k:Far S' w w') (hS:∀ b,b∈S'→b < a.heap.size→b∈S):Far S a w' :=
  ⟨k.os.trans h.os,k.tape.trans h.tape,k.output.trans h.output,Nat.le_trans h.size k.size,
   fun b hb hn=>(k.block b (Nat.lt_of_lt_of_le hb h.size) (fun hm=>hn (hS b hm hb))).trans (h.block b hb hn)⟩
theorem Far.mono (h:Far S a w) (hS:∀ b,b∈S→b < a.heap.size→b∈S'):Far S' a w :=
  ⟨h.os,h.tape,h.output,h.size,fun b hb hn=>h.block b hb (fun hm=>hn (hS b hm hb))⟩
theorem Far.drew (h:Far S a w):Far S a w.drew:=⟨h.os,h.tape,h.output,h.size,h.block⟩
theorem Far.drewN (h:Far S a w) (n:Nat):Far S a (w.drewN n):=⟨h.os,h.tape,h.output,h.size,h.block⟩
theorem Far.alloc (h:Far S a w) (o:Obj):Far S a (w.alloc o) :=
  ⟨h.os,h.tape,h.output,Nat.le_trans h.size (by simp),fun b hb hn=>(Below.heap_alloc w o b (Nat.lt_of_lt_of_le hb h.size)).trans (h.block b hb hn)⟩
theorem Far.setCell (h:Far S a w) {p:Addr} (hp:p.block < a.heap.size→p.block∈S) (u:Value):Far S a (w.setCell p u) :=
  ⟨h.os,h.tape,h.output,by simpa [World.setCell] using h.size,fun b hb hn =>
    (Below.heap_setCell w p u b (fun e=>hn (e ▸ hp (e ▸ hb)))).trans (h.block b hb hn)⟩
theorem Far.of_below (h:Below a.heap.size a w) (S:List Nat):Far S a w:=⟨h.os,h.tape,h.output,h.size,fun b hb _=>h.block b hb⟩
theorem Far.of_grown {row:Option Nat} (h:a.grownBy w row) (hS:∀ b,row=some b→b < a.heap.size→b∈S):Far S a w :=
  ⟨h.os,h.tape,h.output,h.size,fun b hb hn=>h.block b hb (fun e=>hn (hS b e.symm hb))⟩
theorem Far.below {B:Nat} (h:Far S a w) (hB:B≤a.heap.size) (hS:∀ b,b∈S→B≤b):Below B a w :=
  ⟨h.os,h.tape,h.output,h.size,fun b hb=>h.block b (by omega) (fun hm=>by have:=hS b hm;omega)⟩
theorem Far.below_nil (h:Far [] a w):Below a.heap.size a w:=h.below (Nat.le_refl _) (fun _ hm=>by cases hm)
theorem Row.far {b:Nat} {t:TypeId} {l:List Value} (h:Row a b t l) (k:Far S a w) (hn:b∉S):Row w b t l:=h.of_block (k.block b h.lt hn)
theorem Far.cell (k:Far S a w) {p:Addr} (hp:p.block < a.heap.size) (hn:p.block∉S):w.cell? p=a.cell? p:=World.cell?_of_block (w:=a) (k.block _ hp hn)
theorem Far.frozen (k:Far S a w) {p:Addr} (hp:p.block < a.heap.size) (hn:p.block∉S):w.frozen? p=a.frozen? p:=World.frozen?_of_block (w:=a) (k.block _ hp hn)
end
def Src (w:World) (S:List Nat) (A:Option Addr) (vs:List Value):Prop :=
  0 < vs.length→∃ ad:Addr,A=some ad∧ad.block∉S∧ad.block < w.heap.size∧∀ j u,vs[j]? = some u→w.cell? (ad.add j)=some u
theorem add_block (a:Addr) (n:Nat):(a.add n).block=a.block:=by unfold Addr.add;split <;> rfl
theorem head_add (b j:Nat):(⟨b,0,none⟩:Addr).add j=⟨b,j,none⟩:=by
  unfold Addr.add;split
  · rename_i h;subst h;rfl
  · simp
theorem Src.row {w:World} {S:List Nat} {b:Nat} {t:TypeId} {l:List Value} (h:Row w b t l) (hb:b∉S) (vs:List Value) (hv:∀ (j:Nat) (u:Value),vs[j]? = some u→l[j]? = some u):Src w S (some ⟨b,0,none⟩) vs:=by
  intro _;refine ⟨_,rfl,hb,h.lt,fun j u hu=>?_⟩
  rw [head_add];exact h.at (hv j u hu)
theorem Src.nil (w:World) (S:List Nat) (A:Option Addr):Src w S A []:=fun h=>absurd h (by simp)
theorem Src.far {S T:List Nat} {a w:World} {A:Option Addr} {vs:List Value} (h:Src a S A vs) (k:Far T a w) (hT:∀ b,b∈T→b∈S):Src w S A vs:=by
  intro hp;obtain ⟨ad,e,hb,hl,hc⟩:=h hp;refine ⟨ad,e,hb,Nat.lt_of_lt_of_le hl k.size,fun j u hu=>?_⟩
  rw [k.cell (by rw [add_block];exact hl) (by rw [add_block];exact fun hm=>hb (hT _ hm))];exact hc j u hu
theorem Src.mono {S S':List Nat} {w:World} {A:Option Addr} {vs:List Value} (h:Src w S A vs) (hS:∀ b,b∈S'→b < w.heap.size→b∈S):Src w S' A vs:=by
  intro hp;obtain ⟨ad,e,hb,hl,hc⟩:=h hp;exact ⟨ad,e,fun hm=>hb (hS _ hm hl),hl,hc⟩
theorem own_far {S:List Nat} {a w:World} {base:Nat} {e:TypeId} {size n:Nat} {v:Value} {xs:List Value} (h:a.ownsRow base e size v n xs) (k:Far S a w) (hn:∀ b,v.ownBlock=some b→b∉S):w.ownsRow base e size v n xs:=by
  obtain ⟨h1,h2⟩:=h;refine ⟨h1,?_⟩
  rcases h2 with h2 | ⟨g,cap,cur,rfl,hb,hg,h3⟩
  · exact .inl h2
  · refine .inr ⟨g,cap,cur,rfl,hb,?_,h3⟩
    have hlt:g < a.heap.size:=by
      rcases Nat.lt_or_ge g a.heap.size with hb | hb
      · exact hb
      · rw [Array.getElem?_eq_none hb] at hg;cases hg
    rw [k.block g hlt (hn g rfl)];exact hg
theorem own_lt {a:World} {base:Nat} {e:TypeId} {size n:Nat} {v:Value} {xs:List Value} (h:a.ownsRow base e size v n xs) (b:Nat) (hb:v.ownBlock=some b):b < a.heap.size∧base≤b:=by
  obtain ⟨_,h2⟩:=h
  rcases h2 with ⟨rfl,_⟩ | ⟨g,cap,cur,rfl,hbase,hg,_⟩
  · simp [Value.ownBlock] at hb
  · have:g=b:=by simpa [Value.ownBlock] using hb
    subst this;refine ⟨?_,hbase⟩
    rcases Nat.lt_or_ge g a.heap.size with hb | hb
    · exact hb
    · rw [Array.getElem?_eq_none hb] at hg;cases hg
theorem own_row_ne {w:World} {base:Nat} {e:TypeId} {size n:Nat} {v:Value} {xs:List Value} (h:w.ownsRow base e size v n xs) {b:Nat} {t:TypeId} {l:List Value} (hr:Row w b t l) (ht:e≠t):v.ownBlock≠some b:=by
  obtain ⟨_,h2⟩:=h
  rcases h2 with ⟨rfl,_⟩ | ⟨g,cap,cur,rfl,hbase,hg,_⟩
  · simp [Value.ownBlock]
  · intro he;have:g=b:=by simpa [Value.ownBlock] using he
    subst this;unfold Row at hr;rw [hg] at hr;simp only [Option.some.injEq,Obj.cells.injEq] at hr
    exact ht hr.2.1
theorem own_own_ne {w:World} {base base':Nat} {e e':TypeId} {size size' n n':Nat} {v v':Value} {xs xs':List Value} (h:w.ownsRow base e size v n xs) (h':w.ownsRow base' e' size' v' n' xs') (ht:e≠e') (b:Nat) (hb:v.ownBlock=some b):v'.ownBlock≠some b:=by
  intro hb';obtain ⟨_,h2⟩:=h;obtain ⟨_,h2'⟩:=h'
  rcases h2 with ⟨rfl,_⟩ | ⟨g,cap,cur,rfl,hbase,hg,_⟩
  · simp [Value.ownBlock] at hb
  · rcases h2' with ⟨rfl,_⟩ | ⟨g',cap',cur',rfl,hbase',hg',_⟩
    · simp [Value.ownBlock] at hb'
    · have e1:g=b:=by simpa [Value.ownBlock] using hb
      have e2:g'=b:=by simpa [Value.ownBlock] using hb'
      subst e1;subst e2;rw [hg] at hg';simp only [Option.some.injEq,Obj.cells.injEq] at hg'
      exact ht hg'.2.1
end MM
end Go.Proofs.YtehgmmbdlnginaaGreatDoor
namespace Go.Proofs.YtehgmmbdlnginaaGreatDoor
open Go.RowKit
namespace MO
open MM
section
variable {w:World} {base:Nat} {e:TypeId} {size:Nat} {v:Value} {n:Nat} {xs:List Value}
theorem form (h:w.ownsRow base e size v n xs):∃ A c,v = .slice A n c∧(A=none→c=0)∧n≤c∧c≤maxLen∧(∀ S,(∀ b,v.ownBlock=some b→b∉S)→Src w S A xs) ∧
    ((A=none∧n=0∧c=0)∨∃ g,A=some ⟨g,0,none⟩∧base≤g∧g < w.heap.size):=by
  have hcells:=@World.ownsRow.cells w base e size v n xs h;have hlt:=fun b (hb:v.ownBlock=some b)=>own_lt h b hb
  have hl:=h.1
  rcases h.2 with ⟨rfl,rfl⟩ | ⟨g,cap,cur,rfl,hb,hg,hn,hm,_⟩
  · refine ⟨none,0,rfl,fun _=>rfl,Nat.le_refl _,Nat.zero_le _,fun S _ hp=>?_,.inl ⟨rfl,rfl,rfl⟩⟩
    rw [hl] at hp;omega
  · refine ⟨some ⟨g,0,none⟩,cap,rfl,(fun h=>by cases h),hn,hm,fun S hS hp=>?_,.inr ⟨g,rfl,hb,(hlt g rfl).1⟩⟩
    exact ⟨_,rfl,hS g rfl,(hlt g rfl).1,hcells rfl⟩
theorem of_row {b:Nat} {l:List Value} (h:Row w b e l) (hb:base≤b) (hn:l.length=n*size) (hm:n≤maxLen):w.ownsRow base e size (.slice (some ⟨b,0,none⟩) n n) n l :=
  ⟨hn,.inr ⟨b,n,l.toArray,rfl,hb,h,Nat.le_refl _,hm,by simpa using hn,by simp [← hn]⟩⟩
theorem none_ (w:World) (base:Nat) (e:TypeId) (size:Nat):w.ownsRow base e size (.slice none 0 0) 0 []:=⟨by simp,.inl ⟨rfl,rfl⟩⟩
end
section
variable {P:Program} (w:World)
theorem wpList_append {ops:Array Oper} {rest:List Oper} {o:Oper} {a:Act} {Q:Exit→Act→World→Prop} (hgd:o.guard=none) (s x:Operand) (t:TypeId)
    (ho:o.op = .call { callee:=.builtin .append,args:=#[s,x],argTypes:=#[t,t] })
    (base:Nat) (e:TypeId) (z:Value) (size bytes:Nat) (ht:P.underlying t=some (.slice e)) (hinfo:(P.info? e).map (fun i=>(i.zero,i.size,i.bytes))=some (some z,size,bytes))
    (hzs:z.cells.size=size) (hsz:0 < size) (v:Value) (n:Nat) (xs:List Value) (hs:a.eval s=v) (hown:w.ownsRow base e size v n xs)
    (A:Option Addr) (m c:Nat) (news:List Value) (hx:a.eval x = .slice A m c) (hl:news.length=m*size) (hnil:A=none→c=0∧m=0) (S:List Nat) (hsrc:Src w S A news) (h1:∀ u∈news,u.oneCell'=true)
    (h63:n+m≤maxLen) (hbytes:(n+m)*bytes≤140737488355328) (hbase:base≤w.heap.size)
    (h:∀ v' w',w'.ownsRow base e size v' (n+m) (xs++news)→w.grownBy w' v.ownBlock→(v'.ownBlock=v.ownBlock∨v'.ownBlock=some w.heap.size)→wpList P ops Q rest (a.put o.dst v') w') :
    wpList P ops Q (o::rest) a w:=by
  obtain ⟨i,hi,hz,hsize,hby⟩:=info_parts hinfo;refine wpList_plain hgd fun K hK=>?_
  cases A with
  | none =>
    obtain ⟨rfl,rfl⟩:=hnil rfl;have hn0:news=[]:=List.eq_nil_of_length_eq_zero (by simpa using hl);subst hn0;have hrun:=run_append_owned_none (P:=P) (w:=w) base t o.type e i size ht hi v n xs hown;unfold Oper.wp;simp [execOp,ho,resolve,invoke,builtin,hs,hx,hrun,Result.andThen]
    exact hK _ _ (h v w (by simpa using hown) (World.grownBy.refl w _) (.inl rfl))
  | some ad =>
    have hc:∀ j u,news[j]? = some u→w.cell? (ad.add j)=some u:=by
      intro j u hu;have hp:0 < news.length:=by have:=(List.getElem?_eq_some_iff.1 hu).1;omega
      obtain ⟨ad',e',_,_,hcc⟩:=hsrc hp;cases e'
      exact hcc j u hu
    obtain ⟨v',w',hrun,h2,h3,_,h5⟩:=run_append_own_at (P:=P) w base t o.type e i z size bytes ht hi hz hsize hby hzs hsz v n xs hown ad m c news hl hc h1 h63 hbytes hbase;unfold Oper.wp;simp [execOp,ho,resolve,invoke,builtin,hs,hx,hrun,Result.andThen]
    exact hK _ _ (h v' w' h2 h3 h5)
end
end MO
end Go.Proofs.YtehgmmbdlnginaaGreatDoor
namespace Go.Proofs.YtehgmmbdlnginaaGreatDoor
open Go.RowKit
namespace MO
open MM
theorem step_append {P:Program} {ops:Array Oper} {o:Oper} {a:Act} {w:World} {K:Act→World→Prop} {Q:Exit→Act→World→Prop} {E:Prop} (hgd:o.guard=none) (s x:Operand) (t:TypeId)
    (ho:o.op = .call { callee:=.builtin .append,args:=#[s,x],argTypes:=#[t,t] })
    (base:Nat) (e:TypeId) (z:Value) (size bytes:Nat) (ht:P.underlying t=some (.slice e)) (hinfo:(P.info? e).map (fun i=>(i.zero,i.size,i.bytes))=some (some z,size,bytes))
    (hzs:z.cells.size=size) (hsz:0 < size) (v:Value) (n:Nat) (xs:List Value) (hs:a.eval s=v) (hown:w.ownsRow base e size v n xs)
    (A:Option Addr) (m c:Nat) (news:List Value) (hx:a.eval x = .slice A m c) (hl:news.length=m*size) (hnil:A=none→c=0∧m=0) (S:List Nat) (hsrc:Src w S A news) (h1:∀ u∈news,u.oneCell'=true)
    (h63:n+m≤maxLen) (hbytes:(n+m)*bytes≤140737488355328) (hbase:base≤w.heap.size)
    (h:∀ v' w',w'.ownsRow base e size v' (n+m) (xs++news)→w.grownBy w' v.ownBlock→(v'.ownBlock=v.ownBlock∨v'.ownBlock=some w.heap.size)→K (a.put o.dst v') w') :
    if Region.wanted o (yielded ops a.tmps)=true then Oper.wp P o a w K Q else E:=by
  have hw:Region.wanted o (yielded ops a.tmps)=true:=by simp [Region.wanted,hgd]
  rw [if_pos hw];obtain ⟨i,hi,hz,hsize,hby⟩:=info_parts hinfo;cases A with
  | none =>
    obtain ⟨rfl,rfl⟩:=hnil rfl;have hn0:news=[]:=List.eq_nil_of_length_eq_zero (by simpa using hl);subst hn0;have hrun:=run_append_owned_none (P:=P) (w:=w) base t o.type e i size ht hi v n xs hown;unfold Oper.wp;simp [execOp,ho,resolve,invoke,builtin,hs,hx,hrun,Result.andThen]
    exact h v w (by simpa using hown) (World.grownBy.refl w _) (.inl rfl)
  | some ad =>
    have hc:∀ j u,news[j]? = some u→w.cell? (ad.add j)=some u:=by
      intro j u hu;have hp:0 < news.length:=by have:=(List.getElem?_eq_some_iff.1 hu).1;omega
      obtain ⟨ad',e',_,_,hcc⟩:=hsrc hp;cases e'
      exact hcc j u hu
    obtain ⟨v',w',hrun,h2,h3,_,h5⟩:=run_append_own_at (P:=P) w base t o.type e i z size bytes ht hi hz hsize hby hzs hsz v n xs hown ad m c news hl hc h1 h63 hbytes hbase;unfold Oper.wp;simp [execOp,ho,resolve,invoke,builtin,hs,hx,hrun,Result.andThen]
    exact h v' w' h2 h3 h5
end MO
end Go.Proofs.YtehgmmbdlnginaaGreatDoor
namespace Go.Proofs.YtehgmmbdlnginaaGreatDoor
open Go.RowKit Go.ChangeShapes Go.WideShapes Go.Deep
namespace MR
open MM
theorem cell_lt {w:World} {a:Addr} {v:Value} (h:w.cell? a=some v):a.block < w.heap.size:=by
  unfold World.cell? at h
  rcases Nat.lt_or_ge a.block w.heap.size with hb | hb
  · exact hb
  · rw [Array.getElem?_eq_none hb] at h;cases h
section
variable {H:Type} {enc:TypeId × Value→H} {P:Program} {w:World} {fuel:Nat}
end
structure Ints (k:IntKind) (w:World) (a:Option Addr) (len cap:Nat) (zs:List Int):Prop where
  len_:zs.length=len
  le:len≤cap
  max:cap≤maxLen
  nil:a=none→cap=0
  src:Src w [] a (zs.map (.int k))
  wf:∀ z∈zs,(Lit.int k z).wf=true
section
variable {H:Type} {enc:TypeId × Value→H} {P:Program} {w:World} {fuel:Nat}
end
theorem Ints.far {k:IntKind} {w w':World} {a:Option Addr} {len cap:Nat} {zs:List Int} (h:Ints k w a len cap zs) (f:Far [] w w'):Ints k w' a len cap zs :=
  ⟨h.len_,h.le,h.max,h.nil,h.src.far f (by simp),h.wf⟩
theorem spot_none {w:World} {a:Addr} {v:Value} (h:w.cell? a=some v):a.spot=none:=World.cell?_spot h
theorem add_zero_ (a:Addr):a.add 0=a:=by unfold Addr.add;simp
theorem mk_add (b off i:Nat):(⟨b,off,none⟩:Addr).add i=⟨b,off+i,none⟩:=by
  unfold Addr.add;split
  · rename_i h;subst h;rfl
  · rfl
section
variable {H:Type} {enc:TypeId × Value→H} {P:Program} {w:World} {fuel:Nat}
end
end MR
end Go.Proofs.YtehgmmbdlnginaaGreatDoor
namespace Go.Proofs.YtehgmmbdlnginaaGreatDoor
open Go.RowKit
namespace MC
end MC
end Go.Proofs.YtehgmmbdlnginaaGreatDoor
namespace Go.Proofs.YtehgmmbdlnginaaGreatDoor
namespace WP
open Go.RowKit
def inR (n:Int):Bool:=decide (-1099511627776 < n) && decide (n < 1099511627776)
def encW (n:Int):Int:=(n*8) % 18446744073709551616
def intW (n:Int):Int:=if inR n then encW n else 0
def intE (n:Int):Int:=if inR n then 0 else 10
def kindB (k:Int):Bool:=k == 1 || k == 3 || k == 4
def ofB (k n:Int):Bool:=kindB k && (decide (0≤n) && decide (n < 1099511627776))
def ofW (k n:Int):Int:=if ofB k n then n*8+k else 0
def ofE (k n:Int):Int:=if ofB k n then 0 else 1
def sgn (w:Int):Int:=if w / 8 < 1152921504606846976 then w / 8 else w / 8 - 2305843009213693952
def toIntB (w:Int):Bool:=decide (w % 8=0) && inR (sgn w)
def toIntN (w:Int):Int:=if toIntB w then sgn w else 0
def toB (k w:Int):Bool:=kindB k && (decide (w % 8=k) && decide (w / 8 < 1099511627776))
def toN (k w:Int):Int:=if toB k w then w / 8 else 0
def boolW (b:Bool):Int:=if b then 18 else 10
def mayB (w:Int):Bool:=(w == 2 || w == 10 || w == 18 || w == 26) || (toIntB w || toB 1 w || toB 3 w || toB 4 w)
def U (w:Int):Prop:=0≤w∧w < 18446744073709551616
def I (n:Int):Prop:=-9223372036854775808≤n∧n≤9223372036854775807
theorem inR_iff (n:Int):inR n=true ↔ -1099511627776 < n∧n < 1099511627776:=by simp [inR]
theorem kindB_iff (k:Int):kindB k=true ↔ k=1∨k=3∨k=4:=by simp [kindB,or_assoc]
theorem toIntB_iff (w:Int):toIntB w=true ↔ w % 8=0∧-1099511627776 < sgn w∧sgn w < 1099511627776:=by simp [toIntB,inR_iff]
theorem ofB_iff (k n:Int):ofB k n=true ↔ (k=1∨k=3∨k=4)∧0≤n∧n < 1099511627776:=by simp [ofB,kindB_iff]
theorem toB_iff (k w:Int):toB k w=true ↔ (k=1∨k=3∨k=4)∧w % 8=k∧w / 8 < 1099511627776:=by simp [toB,kindB_iff]
theorem encW_u (n:Int):U (encW n):=by unfold U encW;omega
theorem sgn_encW (n:Int) (h:inR n=true):sgn (encW n)=n∧encW n % 8=0:=by
  rw [inR_iff] at h;unfold sgn encW;split <;> omega
theorem intW_u (n:Int):U (intW n):=by
  unfold intW;split
  · exact encW_u n
  · unfold U;omega
theorem toInt_intW (n:Int) (h:inR n=true):toIntB (intW n)=true∧toIntN (intW n)=n:=by
  have e:=sgn_encW n h;have hb:toIntB (intW n)=true:=by
    rw [toIntB_iff];simp only [intW,h,if_true];rw [e.1];rw [inR_iff] at h;exact ⟨e.2,h⟩
  refine ⟨hb,?_⟩
  unfold toIntN;rw [if_pos hb];simp only [intW,h,if_true];exact e.1
theorem to_of (k n:Int) (h:ofB k n=true):toB k (ofW k n)=true∧toN k (ofW k n)=n:=by
  have h0:=(ofB_iff k n).1 h;have hb:toB k (ofW k n)=true:=by
    rw [toB_iff];unfold ofW;rw [if_pos h];refine ⟨h0.1,?_,?_⟩ <;> omega
  refine ⟨hb,?_⟩
  unfold toN;rw [if_pos hb];unfold ofW;rw [if_pos h];omega
theorem ofW_u (k n:Int):U (ofW k n):=by
  unfold ofW;split
  · rename_i h;have:=(ofB_iff k n).1 h;unfold U;omega
  · unfold U;omega
theorem and7 (w:Int) (h:U w):bits .and .u64 w 7=w % 8:=by
  unfold U at h;rw [u64_and w 7 h.1 h.2 (by omega) (by omega)];have e:w.toNat &&& (7:Int).toNat=w.toNat % 8:=nat_mask3 _;rw [e];omega
theorem mk_rint (n:Int):IntKind.u64.wrap (IntKind.u64.wrap n*8)=encW n:=by
  rw [IntKind.wrap_u64,IntKind.wrap_u64];unfold encW;omega
theorem sgn_wrap (w:Int) (h:U w):IntKind.i64.wrap w / 8=sgn w:=by
  unfold U at h;rw [IntKind.wrap_i64];unfold sgn;split <;> omega
theorem sgn_wrap64 (w:Int) (h:U w):wrap64 w / 8=sgn w:=by rw [← IntWalk.i64_left];exact sgn_wrap w h
theorem toIntB_no (w:Int) (h:(w % 8 != 0)=true):toIntB w=false:=by
  rw [bne_iff_ne] at h;simp [toIntB,h]
theorem toIntB_out (w:Int) (h:inR (sgn w)=false):toIntB w=false:=by simp [toIntB,h]
theorem toIntB_yes (w:Int) (h:(w % 8 != 0)=false) (h2:inR (sgn w)=true):toIntB w=true:=by
  have h':w % 8=0:=by simpa using h
  simp [toIntB,h',h2]
theorem ofB_mk (k n:Int) (h0:kindB k=true) (h1:0≤n) (h2:n < 1099511627776):ofB k n=true:=by simp [ofB,h0,h1,h2]
theorem ofB_hi (k n:Int) (h2:¬ n < 1099511627776):ofB k n=false:=by simp [ofB,h2]
theorem ofB_lo (k n:Int) (h1:¬ 0≤n):ofB k n=false:=by simp [ofB,h1]
theorem may_last (w:Int) (h1:(w == 2)=false) (h2:(w == 10)=false) (h3:(w == 18)=false) (h4:(w == 26)=false) (h:toIntB w=false):mayB w=toB (w % 8) w:=by
  have hk:w % 8=1∨w % 8=3∨w % 8=4∨kindB (w % 8)=false∧w % 8≠1∧w % 8≠3∧w % 8≠4:=by
    cases hb:kindB (w % 8)
    · right;right;right
      have:¬ (w % 8=1∨w % 8=3∨w % 8=4):=by rw [← kindB_iff,hb];simp
      exact ⟨rfl,by omega,by omega,by omega⟩
    · have:=(kindB_iff _).1 hb;omega
  unfold mayB;rw [h1,h2,h3,h4,h]
  rcases hk with e | e | e | ⟨e,a,b,c⟩
  · simp [toB,e,kindB]
  · simp [toB,e,kindB]
  · simp [toB,e,kindB]
  · simp [toB,e,a,b,c]
theorem may_yes (w:Int) (h:toIntB w=true):mayB w=true:=by simp [mayB,h]
end WP
end Go.Proofs.YtehgmmbdlnginaaGreatDoor
namespace Go.Proofs.YtehgmmbdlnginaaGreatDoor
open Go.RowKit
namespace WW
theorem ret_b {a b:Bool} (h:a=b):Ending.returned (.bool a) = .returned (.bool b):=by rw [h]
theorem ret_2 {k k':IntKind} {a b c d:Int} (h:a=b) (h':c=d):Ending.returned (.tuple #[.int k a,.int k' c]) = .returned (.tuple #[.int k b,.int k' d]):=by rw [h,h']
theorem ret_ib {k:IntKind} {a b:Int} {c d:Bool} (h:a=b) (h':c=d):Ending.returned (.tuple #[.int k a,.bool c]) = .returned (.tuple #[.int k b,.bool d]):=by rw [h,h']
set_option maxHeartbeats 400000 in
theorem inRange_any (n:Int) (w:World):Calls Tryz.prog 153 #[.int .i64 n] w fun e w'=>e = .returned (.bool (WP.inR n))∧w=w':=by
  by_cases h1 : -1099511627776 < n
  · by_cases h2:n < 1099511627776
    · go_enter Tryz.func153,Tryz.ntmps153
      go_wp2;go_ret
      exact ⟨ret_b (by simp [WP.inR,h1,h2]),rfl⟩
    · go_enter Tryz.func153,Tryz.ntmps153
      go_wp2;go_ret
      exact ⟨ret_b (by simp [WP.inR];try omega),rfl⟩
  · go_enter Tryz.func153,Tryz.ntmps153
    go_wp2;go_ret
    exact ⟨ret_b (by simp [WP.inR];try omega),rfl⟩
set_option maxHeartbeats 400000 in
theorem rint_any (n:Int) (w:World):Calls Tryz.prog 62 #[.int .i64 n] w fun e w'=>e = .returned (.tuple #[.int .u64 (WP.intW n),.int .i64 (WP.intE n)])∧w=w':=by
  by_cases h1 : -1099511627776 < n
  · by_cases h2:n < 1099511627776
    · have h:WP.inR n=true:=by simp [WP.inR,h1,h2]
      go_enter Tryz.func62,Tryz.ntmps62
      go_wp2;go_ret2
      exact ⟨ret_2 (by rw [WP.mk_rint];simp [WP.intW,h]) (by simp [WP.intE,h]),rfl⟩
    · have h:WP.inR n=false:=by simp [WP.inR];omega
      go_enter Tryz.func62,Tryz.ntmps62
      go_wp2;go_ret2
      exact ⟨ret_2 (by simp [WP.intW,h]) (by simp [WP.intE,h]),rfl⟩
  · have h:WP.inR n=false:=by simp [WP.inR];omega
    go_enter Tryz.func62,Tryz.ntmps62
    go_wp2;go_ret2
    exact ⟨ret_2 (by simp [WP.intW,h]) (by simp [WP.intE,h]),rfl⟩
set_option maxHeartbeats 400000 in
theorem numb_any (k:Int) (w:World):Calls Tryz.prog 148 #[.int .i64 k] w fun e w'=>e = .returned (.bool (WP.kindB k))∧w=w':=by
  by_cases h1:k=1
  · subst h1;go_enter Tryz.func148,Tryz.ntmps148
    go_wp2;go_ret
    exact ⟨ret_b (by decide),rfl⟩
  · by_cases h2:k=3
    · subst h2;go_enter Tryz.func148,Tryz.ntmps148
      go_wp2;go_ret
      exact ⟨ret_b (by decide),rfl⟩
    · by_cases h3:k=4
      · subst h3;go_enter Tryz.func148,Tryz.ntmps148
        go_wp2;go_ret
        exact ⟨ret_b (by decide),rfl⟩
      · go_enter Tryz.func148,Tryz.ntmps148
        go_wp2;go_ret
        exact ⟨ret_b (by simp [WP.kindB]),rfl⟩
set_option maxHeartbeats 400000 in
theorem toint_any (n:Int) (hu:WP.U n) (w:World):Calls Tryz.prog 149 #[.int .u64 n] w fun e w'=>e = .returned (.tuple #[.int .i64 (WP.toIntN n),.bool (WP.toIntB n)])∧w=w':=by
  have ha:=WP.and7 n hu;have hs:=WP.sgn_wrap64 n hu;clear hu;cases h8:(n % 8 != 0)
  · cases hr:WP.inR (WP.sgn n)
    · have h:=WP.toIntB_out n hr;have H:=Lib.hid h;clear h;go_enter Tryz.func149,Tryz.ntmps149
      go_wp2_with (go_at_call 153;refine (inRange_any _ _).mono ?_;rintro e w' ⟨rfl,rfl⟩)
      go_ret2
      exact ⟨ret_ib (by simp [WP.toIntN,H.out]) (by simp [H.out]),rfl⟩
    · have h:=WP.toIntB_yes n h8 hr;have H:=Lib.hid h;clear h;go_enter Tryz.func149,Tryz.ntmps149
      go_wp2_with (go_at_call 153;refine (inRange_any _ _).mono ?_;rintro e w' ⟨rfl,rfl⟩)
      go_ret2
      exact ⟨ret_ib (by simp [WP.toIntN,H.out]) (by simp [H.out]),rfl⟩
  · have h:=WP.toIntB_no n h8;have H:=Lib.hid h;clear h;go_enter Tryz.func149,Tryz.ntmps149
    go_wp2_with (go_at_call 153;refine (inRange_any _ _).mono ?_;rintro e w' ⟨rfl,rfl⟩)
    go_ret2
    exact ⟨ret_ib (by simp [WP.toIntN,H.out]) (by simp [H.out]),rfl⟩
set_option maxHeartbeats 400000 in
theorem to_any (k n:Int) (hu:WP.U n) (w:World):Calls Tryz.prog 127 #[.int .i64 k,.int .u64 n] w fun e w'=>e = .returned (.tuple #[.int .i64 (WP.toN k n),.bool (WP.toB k n)])∧w=w':=by
  have ha:=WP.and7 n hu;have hn0:0≤n:=hu.1;have hn1:n / 8 < 2305843009213693952:=by have:=hu.2;omega
  clear hu;cases h0:WP.kindB k
  · have H:=Lib.hid (show WP.toB k n=false by simp [WP.toB,h0]);go_enter Tryz.func127,Tryz.ntmps127
    go_wp2_with (go_at_call 148;refine (numb_any _ _).mono ?_;rintro e w' ⟨rfl,rfl⟩)
    go_ret2
    exact ⟨ret_ib (by simp [WP.toN,H.out]) (by simp [H.out]),rfl⟩
  · obtain hk:=(WP.kindB_iff k).1 h0;by_cases hm:n % 8=k
    · by_cases hl:n / 8 < 1099511627776
      · have H:=Lib.hid (show WP.toB k n=true by simp [WP.toB,h0,hm,hl]);have ht:(n % 8 != k)=false:=by simp [hm]
        clear hm
        rcases hk with rfl | rfl | rfl
        all_goals
          go_enter Tryz.func127,Tryz.ntmps127
          go_wp2_with (go_at_call 148;refine (numb_any _ _).mono ?_;rintro e w' ⟨rfl,rfl⟩)
          go_ret2
          exact ⟨ret_ib (by simp [WP.toN,H.out]) (by simp [H.out]),rfl⟩
      · have H:=Lib.hid (show WP.toB k n=false by simp [WP.toB,hl]);have ht:(n % 8 != k)=false:=by simp [hm]
        clear hm
        rcases hk with rfl | rfl | rfl
        all_goals
          go_enter Tryz.func127,Tryz.ntmps127
          go_wp2_with (go_at_call 148;refine (numb_any _ _).mono ?_;rintro e w' ⟨rfl,rfl⟩)
          go_ret2
          exact ⟨ret_ib (by simp [WP.toN,H.out]) (by simp [H.out]),rfl⟩
    · have H:=Lib.hid (show WP.toB k n=false by simp [WP.toB,hm]);have ht:(n % 8 != k)=true:=by simp [hm]
      clear hm
      rcases hk with rfl | rfl | rfl
      all_goals
        go_enter Tryz.func127,Tryz.ntmps127
        go_wp2_with (go_at_call 148;refine (numb_any _ _).mono ?_;rintro e w' ⟨rfl,rfl⟩)
        go_ret2
        exact ⟨ret_ib (by simp [WP.toN,H.out]) (by simp [H.out]),rfl⟩
end WW
end Go.Proofs.YtehgmmbdlnginaaGreatDoor
namespace Go.Proofs.YtehgmmbdlnginaaGreatDoor
namespace AP
open Go.RowKit
structure Th where
  k:Int
  l:List Int
def sz:List Th→Nat
  | []=>0
  | t::ts=>t.l.length+1+sz ts
def fw:List Th→List Int
  | []=>[]
  | t::ts=>(t.l.length:Int)::(t.l++fw ts)
def fk:List Th→List Int
  | []=>[]
  | t::ts=>t.k::(List.replicate t.l.length 0++fk ts)
def idx:List Th→Nat→Option Nat
  | [],_=>none
  | t::ts,a=>if a=0 then some 0 else if a < t.l.length+1 then none else (idx ts (a - (t.l.length+1))).map (· + 1)
def kinds (n:Nat) (ts:List Th):List Int:=fk ts++List.replicate (n - sz ts) 0
end AP
end Go.Proofs.YtehgmmbdlnginaaGreatDoor
namespace Go.Proofs.YtehgmmbdlnginaaGreatDoor
open Go.RowKit
namespace AW
section
variable {w:World} {p g h n:Nat} {ts:List AP.Th}
end
end AW
end Go.Proofs.YtehgmmbdlnginaaGreatDoor
namespace Go.Proofs.YtehgmmbdlnginaaGreatDoor
open Go.RowKit
namespace AW
section
variable {w:World} {p g h n:Nat} {ts:List AP.Th}
end
end AW
end Go.Proofs.YtehgmmbdlnginaaGreatDoor
namespace Go.Proofs.YtehgmmbdlnginaaGreatDoor
open Go.RowKit
namespace AW
section
variable {w:World} {p g h n:Nat} {ts:List AP.Th}
end
end AW
end Go.Proofs.YtehgmmbdlnginaaGreatDoor
namespace Go.Proofs.YtehgmmbdlnginaaGreatDoor
namespace KP
structure Ki where
  op:Int
  a:Int
  b:Int
  w:Int
structure Kb where
  many:Int
  l:List Ki
def pops (x:Ki):Int:=if x.op=11 then x.b else if x.op=12∨x.op=13 then x.a else 0
def pushes (x:Ki):Int:=if x.op=7 then 1 else 0
def succs (i:Int) (x:Ki):List Int :=
  if x.op=8 then [x.a] else if x.op=9 then [i+1,x.a] else if x.op=13∨x.op=15∨x.op=16 then [] else [i+1]
def at_ (d:List Int) (i:Nat):Int:=d.getD i (-1)
def mark (d:List Int) (i:Nat) (left s:Int):Option (List Int) :=
  if s≤i then none else if (d.length:Int)≤s then none else if at_ d s.toNat≠-1∧at_ d s.toNat≠left then none else some (d.set s.toNat left)
def marks (d:List Int) (i:Nat) (left:Int):List Int→Option (List Int)
  | []=>some d
  | s::r=>match mark d i left s with
    | none=>none
    | some d'=>marks d' i left r
def lead (d:List Int) (i:Nat) (x:Ki):Option (List Int) :=
  if pops x < 0 then none else if at_ d i < pops x then none else marks d i (at_ d i - pops x+pushes x) (succs i x)
def run:List Ki→Nat→List Int→Option (List Int)
  | [],_,d=>some d
  | x::r,i,d=>if at_ d i = -1 then run r (i+1) d else match lead d i x with
    | none=>none
    | some d'=>run r (i+1) d'
def start (n:Nat):List Int:=(List.replicate n (-1)).set 0 0
def depth (l:List Ki):Option (List Int):=if l=[] then none else run l 0 (start l.length)
def ownL:List (List Int):=[[],[2],[0,1],[0],[0,1],[0],[0],[],[0],[0],[0],[0,1],[0],[0],[],[],[]]
def own (op:Int):List Int:=ownL.getD op.toNat []
def fld (x:Ki) (f:Int):Int:=if f=0 then x.a else if f=1 then x.b else x.w
def other (x:Ki) (f:Int):Bool:=!(own x.op).contains f && fld x f != 0
def others (x:Ki):Bool:=other x 0 || (other x 1 || other x 2)
def const (w:Int):Bool:=WP.mayB w && !WP.toB 1 w
def manyL:List Int:=[0,2,2,2,2,2,2,2,2,1,1,1,2,1,1,1,1,1,1,1,1,1,2,1,0,2,2,1,2,1,0]
def arity (a:Int):Option Int:=if 1≤a∧a≤30∧a≠18 then some (manyL.getD a.toNat 0) else none
def fits (n:Int) (x:Ki) (d:Int):Bool :=
  if x.op=10 then decide (0 < x.a) && decide (x.a < n) else if x.op=11 then arity x.a == some x.b else if x.op=13∨x.op=15∨x.op=16 then d == pops x else true
def whole (x:Ki):Bool:=decide (1≤x.op) && (decide (x.op≤16) && (!others x && (decide (0≤x.a) && (decide (0≤x.b) && const x.w))))
def may (n:Int) (x:Ki) (d:Int):Bool:=whole x && fits n x d
def firstBad (n:Int):List Ki→List Int→Nat→Option Nat
  | x::r,d::ds,i=>if may n x d then firstBad n r ds (i+1) else some i
  | _,_,_=>none
def wrongAt (n:Int) (b:Kb) (most:Int):Option Nat :=
  if b.many < 0 then some 0 else if most < b.many then some 0 else match depth b.l with
    | none=>some 0
    | some d=>if d.contains (-1) then some 0 else firstBad n b.l d 0
def checkL (n:Int):List Kb→Nat→Int→Int × Int × Int
  | [],_,_=>(0,0,0)
  | b::r,i,most=>match wrongAt n b most with
    | some k=>(i,k,110)
    | none=>checkL n r (i+1) 100
def check (l:List Kb):Int × Int × Int:=if l=[] then (0,0,1) else checkL l.length l 0 0
theorem at_set (d:List Int) (k:Nat) (v:Int) (j:Nat):at_ (d.set k v) j=if j=k∧k < d.length then v else at_ d j:=by
  unfold at_;by_cases h:j=k
  · subst h;by_cases h2:j < d.length
    · rw [if_pos ⟨rfl,h2⟩];simp [List.getD,h2]
    · rw [if_neg (fun h=>h2 h.2)];simp [List.getD,h2]
  · rw [if_neg (fun h'=>h h'.1)];simp [List.getD,Ne.symm h]
def Nn (d:List Int):Prop:=∀ j,-1≤at_ d j
structure Kept (i:Nat) (d e:List Int):Prop where
  len:e.length=d.length
  told:∀ j,at_ d j≠-1→at_ e j=at_ d j
  low:∀ j,j≤i→at_ e j=at_ d j
  nn:Nn d→Nn e
theorem Kept.refl (i:Nat) (d:List Int):Kept i d d:=⟨rfl,fun _ _=>rfl,fun _ _=>rfl,id⟩
theorem Kept.trans {i k:Nat} {d e f:List Int} (h:Kept i d e) (g:Kept k e f) (hk:i≤k):Kept i d f :=
  ⟨g.len.trans h.len,fun j hj=>(g.told j (by rw [h.told j hj];exact hj)).trans (h.told j hj),fun j hj=>(g.low j (by omega)).trans (h.low j hj),fun n=>g.nn (h.nn n)⟩
theorem mark_kept {d e:List Int} {i:Nat} {left s:Int} (hl:0≤left) (h:mark d i left s=some e):Kept i d e∧(i:Int) < s∧s < d.length∧at_ e s.toNat=left:=by
  unfold mark at h;split at h
  · cases h
  split at h
  · cases h
  split at h
  · cases h
  rename_i h1 h2 h3;injection h with h;subst h;refine ⟨⟨by simp,fun j hj=>?_,fun j hj=>?_,fun n j=>?_⟩,by omega,by omega,?_⟩
  · rw [at_set];split
    · rename_i h4;obtain ⟨rfl,_⟩:=h4;by_cases h5:at_ d s.toNat=left
      · exact h5.symm
      · exact absurd ⟨hj,h5⟩ h3
    · rfl
  · rw [at_set,if_neg (by omega)]
  · rw [at_set];split
    · omega
    · exact n j
  · rw [at_set,if_pos ⟨rfl,by omega⟩]
theorem marks_kept {i:Nat} {left:Int} (hl:0≤left):∀ (ss:List Int) {d e:List Int},marks d i left ss=some e→Kept i d e∧∀ s∈ss,(i:Int) < s∧s < d.length∧at_ e s.toNat=left:=by
  intro ss;induction ss with
  | nil=>intro d e h;injection h with h;subst h;exact ⟨Kept.refl _ _,fun s hs=>by cases hs⟩
  | cons s r ih =>
    intro d e h;unfold marks at h;cases hm:mark d i left s with
    | none=>rw [hm] at h;cases h
    | some d' =>
      rw [hm] at h;obtain ⟨k1,a1,a2,a3⟩:=mark_kept hl hm;obtain ⟨k2,b2⟩:=ih h;refine ⟨k1.trans k2 (Nat.le_refl _),fun t ht=>?_⟩
      rcases List.mem_cons.1 ht with rfl | ht
      · exact ⟨a1,a2,by rw [k2.told _ (by rw [a3];omega),a3]⟩
      · obtain ⟨c1,c2,c3⟩:=b2 t ht;exact ⟨c1,by rw [← k1.len];exact c2,c3⟩
structure Good (e:List Int) (j:Nat) (x:Ki):Prop where
  pos:0≤pops x
  le:pops x≤at_ e j
  next:∀ s∈succs j x,(j:Int) < s∧s < e.length∧at_ e s.toNat=at_ e j - pops x+pushes x
theorem pushes_nn (x:Ki):0≤pushes x:=by unfold pushes;split <;> omega
theorem lead_kept {d e:List Int} {i:Nat} {x:Ki} (h:lead d i x=some e):Kept i d e∧Good e i x:=by
  unfold lead at h;split at h
  · cases h
  split at h
  · cases h
  rename_i h1 h2;have:=pushes_nn x;obtain ⟨k,g⟩:=marks_kept (by omega) _ h;refine ⟨k,by omega,by rw [k.low i (Nat.le_refl _)];omega,fun s hs=>?_⟩
  obtain ⟨a,b,c⟩:=g s hs;exact ⟨a,by rw [k.len];exact b,by rw [c,k.low i (Nat.le_refl _)]⟩
theorem Good.mono {e f:List Int} {j:Nat} {x:Ki} (g:Good e j x) (k:Kept j e f):Good f j x:=by
  have e1:=k.low j (Nat.le_refl _);refine ⟨g.pos,by rw [e1];exact g.le,fun s hs=>?_⟩
  obtain ⟨a,b,c⟩:=g.next s hs;refine ⟨a,by rw [k.len];exact b,?_⟩
  have:=pushes_nn x;have:=g.le;rw [k.told _ (by rw [c];omega),c,e1]
theorem run_kept:∀ (l:List Ki) (i:Nat) {d e:List Int},run l i d=some e→Kept i d e∧∀ (k:Nat) (x:Ki),l[k]? = some x→at_ e (i+k)≠-1→Good e (i+k) x:=by
  intro l;induction l with
  | nil=>intro i d e h;injection h with h;subst h;exact ⟨Kept.refl _ _,fun k x hx=>by simp at hx⟩
  | cons y r ih =>
    intro i d e h;unfold run at h;split at h
    · rename_i h0;obtain ⟨k1,g1⟩:=ih (i+1) h;refine ⟨⟨k1.len,k1.told,fun j hj=>k1.low j (by omega),k1.nn⟩,fun k x hx hne=>?_⟩
      cases k with
      | zero=>rw [Nat.add_zero,k1.low i (by omega)] at hne;exact absurd h0 hne
      | succ k =>
        have:=g1 k x (by simpa using hx) (by rw [show i+1+k=i+(k+1) by omega];exact hne);rw [show i+1+k=i+(k+1) by omega] at this;exact this
    · cases hl:lead d i y with
      | none=>rw [hl] at h;cases h
      | some d' =>
        rw [hl] at h;obtain ⟨k0,g0⟩:=lead_kept hl;obtain ⟨k1,g1⟩:=ih (i+1) h;have k1':Kept i d' e:=⟨k1.len,k1.told,fun j hj=>k1.low j (by omega),k1.nn⟩
        refine ⟨k0.trans k1' (Nat.le_refl _),fun k x hx hne=>?_⟩
        cases k with
        | zero =>
          simp only [List.getElem?_cons_zero,Option.some.injEq] at hx
          subst hx;exact g0.mono k1'
        | succ k =>
          have:=g1 k x (by simpa using hx) (by rw [show i+1+k=i+(k+1) by omega];exact hne);rw [show i+1+k=i+(k+1) by omega] at this;exact this
theorem start_len (n:Nat):(start n).length=n:=by simp [start]
theorem start_nn (n:Nat):Nn (start n):=by
  intro j;unfold start;rw [at_set];split
  · omega
  · unfold at_;simp only [List.getD,List.getElem?_replicate]
    split <;> simp
theorem depth_good {l:List Ki} {e:List Int} (h:depth l=some e):e.length=l.length∧0 < l.length∧at_ e 0=0∧Nn e∧∀ (k:Nat) (x:Ki),l[k]? = some x→at_ e k≠-1→Good e k x:=by
  unfold depth at h;split at h
  · cases h
  rename_i hne;have h0:0 < l.length:=List.length_pos_iff.2 hne;obtain ⟨k,g⟩:=run_kept l 0 h;refine ⟨by rw [k.len,start_len],h0,?_,k.nn (start_nn _),fun j x hx hj=>?_⟩
  · rw [k.low 0 (Nat.le_refl _)];unfold start;rw [at_set,if_pos ⟨rfl,by simpa using h0⟩]
  · have:=g j x hx (by rw [Nat.zero_add];exact hj);rw [Nat.zero_add] at this;exact this
def Low (d:List Int):Prop:=∀ j:Nat,at_ d j≤j
theorem start_low (n:Nat):Low (start n):=by
  intro j;unfold start;rw [at_set];split
  · omega
  · unfold at_;simp only [List.getD,List.getElem?_replicate]
    split <;> simp <;> omega
theorem marks_low {i:Nat} {left:Int} (hl:left≤i+1):∀ (ss:List Int) {d e:List Int},marks d i left ss=some e→Low d→Low e:=by
  intro ss;induction ss with
  | nil=>intro d e h hd;injection h with h;subst h;exact hd
  | cons s r ih =>
    intro d e h hd;unfold marks at h;cases hm:mark d i left s with
    | none=>rw [hm] at h;cases h
    | some d' =>
      rw [hm] at h;refine ih h ?_
      unfold mark at hm;split at hm
      · cases hm
      split at hm
      · cases hm
      split at hm
      · cases hm
      injection hm with hm;subst hm;intro j;rw [at_set];split
      · omega
      · exact hd j
theorem lead_low {d e:List Int} {i:Nat} {x:Ki} (h:lead d i x=some e) (hd:Low d):Low e:=by
  unfold lead at h;split at h
  · cases h
  split at h
  · cases h
  have h1:=hd i;have h2:pushes x≤1:=by unfold pushes;split <;> omega
  exact marks_low (by omega) _ h hd
theorem firstBad_none {n:Int}:∀ (l:List Ki) (d:List Int) (i:Nat),l.length=d.length→(firstBad n l d i=none ↔ ∀ (k:Nat) (x:Ki),l[k]? = some x→may n x (at_ d k)=true):=by
  intro l;induction l with
  | nil=>intro d i h;simp [firstBad]
  | cons y r ih =>
    intro d i h;cases d with
    | nil=>simp at h
    | cons e d =>
      unfold firstBad;have h':r.length=d.length:=by simpa using h
      constructor
      · intro hb k x hx;split at hb
        · rename_i hm;cases k with
          | zero=>simp at hx;subst hx;exact hm
          | succ k=>exact (ih d (i+1) h').1 hb k x (by simpa using hx)
        · cases hb
      · intro hb;rw [if_pos (show may n y e=true from hb 0 y rfl)];exact (ih d (i+1) h').2 fun k x hx=>hb (k+1) x (by simpa using hx)
end KP
end Go.Proofs.YtehgmmbdlnginaaGreatDoor
