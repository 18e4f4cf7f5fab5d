/-
  Layer 9's code in memory: its forms, those by themselves, and the plans that are open, each with its list; no two rows the same. No condition.
-/
import Derived.Test.YtodjaabcjojlkaaDoorQScoRf
import Derived.Test.YtodjaabcjojlkaaDoorQScoSt
namespace Go.Proofs.YtodjaabcjojlkaaDoor
open Go.RowKit
set_option linter.unusedVariables false
namespace SM
open LX RW6 EX SC
open EW (Sl Bx ptr num strs)
open RX (Nd)
open RM6 (Kin)
structure Pz where
  o:Oq
  lv:Value
  av:Value
def pzL (x:Pz):List Value:=[.int .i64 0,.int .u8 x.o.f.kind,num x.o.f.at_,num x.o.f.n,num x.o.f.a,.string x.o.f.s,.slice none 0 0,.int .u64 x.o.f.w,x.lv,x.av]
def pzC (os:List Pz):List Value:=os.flatMap pzL
theorem pzC_snoc (os:List Pz) (x:Pz):pzC (os++[x])=pzC os++pzL x:=by simp [pzC]
theorem pzC_len (os:List Pz):(pzC os).length=os.length*10:=by
  induction os with
  | nil=>rfl
  | cons x r ih=>simp only [pzC,List.flatMap_cons,List.length_append,List.length_cons] at ih ⊢;rw [ih];simp [pzL];omega
def kinsZ (os:List Pz):List (Value × List Nat):=os.map fun x=>(x.lv,x.o.f.l)
def prtZ (w:World) (Z:List Nat) (q:Nat) (os:List Pz):Prop:=∀ x∈os,∃ vs,Sl w Z x.av vs∧Ips w Z q vs x.o.ps
theorem prtZ.step {w w1:World} {Z Z' S:List Nat} {q:Nat} {os:List Pz} (h:prtZ w Z q os) (hZ:∀ b∈Z',b∈Z∨w.heap.size≤b) (f:MM.Far S w w1) (hS:∀ b∈S,b < w.heap.size→b∈Z'):prtZ w1 Z' q os:=fun x hx=>by
  obtain ⟨vs,h2,h3⟩:=h x hx;exact ⟨vs,(h2.more hZ).far f hS,(h3.more hZ).far f hS⟩
structure Mc (w0 w:World) (Z Y:List Nat) (q:Nat) (fv tv ov:Value) (rs:List (Rf × Value)) (tops:List Nat) (os:List Pz) (ex:List (Value × List Nat)):Prop where
  row:w.ownsRow w0.heap.size 33 8 fv rs.length (rfC rs)
  op:w.ownsRow w0.heap.size 100 10 ov os.length (pzC os.reverse)
  kin:Kin w w0.heap.size ((tv,tops)::(kinsR rs++(kinsZ os++ex)))
  low:∀ b∈Z,w0.heap.size≤b
  z:∀ b∈Z,b < w.heap.size
  sub:∀ b∈Y,b∈Z
  zf:∀ b,fv.ownBlock=some b→b∈Z∧b∉Y
  zo:∀ b,ov.ownBlock=some b→b∈Z∧b∉Y
  zk:∀ k∈((tv,tops)::(kinsR rs++(kinsZ os++ex))),∀ b,k.1.ownBlock=some b→b∈Z∧b∉Y
  prt:prtZ w Z q os
theorem off_ownZ {w:World} {e e':TypeId} {size size' n n' base base':Nat} {v v':Value} {xs xs':List Value} (h:w.ownsRow base e size v n xs) (h':w.ownsRow base' e' size' v' n' xs') (ht:e≠e'):∀ b,v.ownBlock=some b→b∉v'.ownBlock.toList:=by
  intro b hb hm;exact MM.own_own_ne h h' ht b hb (by simpa using hm)
section
variable {w0 w w1:World} {Z Y:List Nat} {q:Nat} {fv tv ov:Value} {rs:List (Rf × Value)} {tops:List Nat} {os:List Pz} {ex:List (Value × List Nat)}
theorem Mc.eval {Y':List Nat} (h:Mc w0 w Z Y q fv tv ov rs tops os ex) (hY:Yto w Y Y') (f:MM.Far Y w w1) (hl:∀ b∈Y',b < w1.heap.size) (h0:w0.heap.size≤w.heap.size):Mc w0 w1 (Y'++Z) Y' q fv tv ov rs tops os ex:=by
  have hno:∀ {b},b∈Z∧b∉Y→b∈Y'++Z∧b∉Y':=fun {b} hb=>⟨List.mem_append_right _ hb.1,fun hm=>(hY.new b hm).elim hb.2 (fun h1=>by have:=h.z b hb.1;omega)⟩
  refine ⟨MM.own_far h.row f (fun b hb=>(h.zf b hb).2),MM.own_far h.op f (fun b hb=>(h.zo b hb).2),h.kin.far f (fun k hk b hb=>(h.zk k hk b hb).2),fun b hb=>?_,fun b hb=>?_,fun b hb=>List.mem_append_left _ hb,fun b hb=>hno (h.zf b hb),fun b hb=>hno (h.zo b hb),fun k hk b hb=>hno (h.zk k hk b hb),h.prt.step (fun b hb=>?_) f (fun b hb _=>List.mem_append_right _ (h.sub b hb))⟩
  · rcases List.mem_append.1 hb with hb | hb
    · rcases hY.new b hb with h1 | h1
      · exact h.low b (h.sub b h1)
      · omega
    · exact h.low b hb
  · rcases List.mem_append.1 hb with hb | hb
    · exact hl b hb
    · exact Nat.lt_of_lt_of_le (h.z b hb) f.size
  · rcases List.mem_append.1 hb with hb | hb
    · exact (hY.new b hb).imp (h.sub b) id
    · exact .inl hb
theorem Mc.to (h:Mc w0 w Z Y q fv tv ov rs tops os ex) (f:MM.Far [] w w1):Mc w0 w1 Z Y q fv tv ov rs tops os ex :=
  ⟨MM.own_far h.row f (by simp),MM.own_far h.op f (by simp),h.kin.far f (by simp),h.low,fun b hb=>Nat.lt_of_lt_of_le (h.z b hb) f.size,h.sub,h.zf,h.zo,h.zk,h.prt.step (fun b hb=>.inl hb) f (by simp)⟩
theorem Mc.cell (h:Mc w0 w Z Y q fv tv ov rs tops os ex) (hq:q∈Y) (i:Nat) (u:Value):Mc w0 (w.setCell ⟨q,i,none⟩ u) Z Y q fv tv ov rs tops os ex:=by
  have f:=cellF w q i u;have off:∀ {b},b∈Z∧b∉Y→b∉[q]:=fun hb hm=>hb.2 (by rw [List.mem_singleton.1 hm];exact hq)
  exact ⟨MM.own_far h.row f (fun b hb=>off (h.zf b hb)),MM.own_far h.op f (fun b hb=>off (h.zo b hb)),h.kin.far f (fun k hk b hb=>off (h.zk k hk b hb)),h.low,fun b hb=>Nat.lt_of_lt_of_le (h.z b hb) f.size,h.sub,h.zf,h.zo,h.zk,h.prt.step (fun b hb=>.inl hb) f (fun b hb _=>by rw [List.mem_singleton.1 hb];exact h.sub _ hq)⟩
theorem Mc.drop {x:Pz} {og c:Nat} (h:Mc w0 w Z Y q fv tv (.slice (some ⟨og,0,none⟩) (os.length+1) c) rs tops (x::os) ex):Mc w0 w Z Y q fv tv (.slice (some ⟨og,0,none⟩) os.length c) rs tops os ((x.lv,x.o.f.l)::ex):=by
  have pm:((tv,tops)::(kinsR rs++(kinsZ (x::os)++ex))).Perm ((tv,tops)::(kinsR rs++(kinsZ os++((x.lv,x.o.f.l)::ex)))):=by
    refine List.Perm.cons _ (List.Perm.append_left _ ?_)
    show ((x.lv,x.o.f.l)::(kinsZ os++ex)).Perm (kinsZ os++(x.lv,x.o.f.l)::ex)
    exact List.perm_middle.symm
  refine ⟨h.row,?_,h.kin.perm pm,h.low,h.z,h.sub,h.zf,fun b hb=>h.zo b hb,fun k hk=>h.zk k (pm.mem_iff.2 hk),fun y hy=>h.prt y (List.mem_cons_of_mem _ hy)⟩
  have:=RC6.own_front (n:=os.length+1) h.op os.length (by omega);rw [List.reverse_cons,pzC_snoc,List.take_append_of_le_length (by rw [pzC_len,List.length_reverse];omega),List.take_of_length_le (by rw [pzC_len,List.length_reverse];omega)] at this;exact this
theorem newIn {w:World} {Z Y:List Nat} {v v':Value} (hv:∀ b,v.ownBlock=some b→b∈Z∧b∉Y) (hl:∀ b∈Y,b < w.heap.size) (hat:v'.ownBlock=v.ownBlock∨∃ b,v'.ownBlock=some b∧w.heap.size≤b):∀ b,v'.ownBlock=some b→b∈v'.ownBlock.toList++Z∧b∉Y:=fun b hb =>
  ⟨List.mem_append_left _ (by simpa using hb),fun hm=>by
    rcases hat with e | ⟨g,e,hg⟩
    · exact (hv b (e ▸ hb)).2 hm
    · rw [e] at hb;injection hb with hb
      have:=hl b hm;omega⟩
theorem newZ {w:World} {Z Y:List Nat} {v v':Value} (hv:∀ b,v.ownBlock=some b→b∈Z∧b∉Y) (hat:v'.ownBlock=v.ownBlock∨∃ b,v'.ownBlock=some b∧w.heap.size≤b):Yto w Z (v'.ownBlock.toList++Z):=addY (fun b hb=>(hv b hb).1) hat
theorem inMore {Z Y T:List Nat} {b:Nat} (h:b∈Z∧b∉Y):b∈T++Z∧b∉Y:=⟨List.mem_append_right _ h.1,h.2⟩
theorem Mc.form {fv':Value} (x:Rf) (hx:Value) (h:Mc w0 w Z Y q fv tv ov rs tops os ((hx,x.l)::ex)) (h0:w0.heap.size≤w.heap.size)
    (hr:w1.ownsRow w0.heap.size 33 8 fv' (rs.length+1) (rfC rs++rfL (x,hx))) (f:MM.Far fv.ownBlock.toList w w1) (hat:fv'.ownBlock=fv.ownBlock∨∃ b,fv'.ownBlock=some b∧w.heap.size≤b) :
    Mc w0 w1 (fv'.ownBlock.toList++Z) Y q fv' tv ov (rs++[(x,hx)]) tops os ex:=by
  have zt:=newZ (v':=fv') h.zf hat;have pm:((tv,tops)::(kinsR rs++(kinsZ os++((hx,x.l)::ex)))).Perm ((tv,tops)::(kinsR (rs++[(x,hx)])++(kinsZ os++ex))):=by
    refine List.Perm.cons _ ?_
    rw [show kinsR (rs++[(x,hx)])=kinsR rs++[(hx,x.l)] by simp [kinsR],List.append_assoc];refine List.Perm.append_left _ ?_
    rw [List.singleton_append];exact List.perm_middle
  refine ⟨?_,MM.own_far h.op f (off_ownZ h.op h.row (by decide)),(h.kin.far f (fun k hk=>off_ownZ (h.kin.each k hk) h.row (by decide))).perm pm,fun b hb=>?_,fun b hb=>?_,fun b hb=>zt.sub _ (h.sub b hb),newIn h.zf (fun b hb=>h.z b (h.sub b hb)) hat,fun b hb=>inMore (h.zo b hb),fun k hk b hb=>inMore (h.zk k (pm.mem_iff.2 hk) b hb),h.prt.step zt.new f (fun b hb _=>zt.sub _ (h.zf b (by simpa using hb)).1)⟩
  · rw [List.length_append,rfC_snoc];exact hr
  · rcases zt.new b hb with h1 | h1
    · exact h.low b h1
    · omega
  · rcases List.mem_append.1 hb with hb | hb
    · exact (MM.own_lt hr b (by simpa using hb)).1
    · exact Nat.lt_of_lt_of_le (h.z b hb) f.size
theorem Mc.top {tv':Value} {n:Nat} (h:Mc w0 w Z Y q fv tv ov rs tops os ex) (h0:w0.heap.size≤w.heap.size)
    (hr:w1.ownsRow w0.heap.size 3 1 tv' (tops.length+1) (ints tops++[.int .i64 ((n:Nat):Int)])) (f:MM.Far tv.ownBlock.toList w w1) (hat:tv'.ownBlock=tv.ownBlock∨∃ b,tv'.ownBlock=some b∧w.heap.size≤b) :
    Mc w0 w1 (tv'.ownBlock.toList++Z) Y q fv tv' ov rs (tops++[n]) os ex:=by
  have ht:=h.kin.each _ (List.mem_cons_self ..);have hz:=h.zk _ (List.mem_cons_self ..);have zt:=newZ (v':=tv') hz hat;refine ⟨MM.own_far h.row f (off_ownZ h.row ht (by decide)),MM.own_far h.op f (off_ownZ h.op ht (by decide)),h.kin.grow hr f hat,fun b hb=>?_,fun b hb=>?_,fun b hb=>zt.sub _ (h.sub b hb),fun b hb=>inMore (h.zf b hb),fun b hb=>inMore (h.zo b hb),fun k hk b hb=>?_,h.prt.step zt.new f (fun b hb _=>zt.sub _ (hz b (by simpa using hb)).1)⟩
  · rcases zt.new b hb with h1 | h1
    · exact h.low b h1
    · omega
  · rcases List.mem_append.1 hb with hb | hb
    · exact (MM.own_lt hr b (by simpa using hb)).1
    · exact Nat.lt_of_lt_of_le (h.z b hb) f.size
  · rcases List.mem_cons.1 hk with rfl | hk
    · exact newIn hz (fun b hb=>h.z b (h.sub b hb)) hat b hb
    · exact inMore (h.zk k (List.mem_cons_of_mem _ hk) b hb)
theorem Mc.push {ov':Value} (x:Pz) (hl:x.o.f.l=[]) (hlv:x.lv = .slice none 0 0) (h:Mc w0 w Z Y q fv tv ov rs tops os ex) (h0:w0.heap.size≤w.heap.size) (hp:∃ vs,Sl w Z x.av vs∧Ips w Z q vs x.o.ps)
    (hr:w1.ownsRow w0.heap.size 100 10 ov' (os.length+1) (pzC os.reverse++pzL x)) (f:MM.Far ov.ownBlock.toList w w1) (hat:ov'.ownBlock=ov.ownBlock∨∃ b,ov'.ownBlock=some b∧w.heap.size≤b) :
    Mc w0 w1 (ov'.ownBlock.toList++Z) Y q fv tv ov' rs tops (x::os) ex:=by
  have zt:=newZ (v':=ov') h.zo hat;have pm:((.slice none 0 0,[])::((tv,tops)::(kinsR rs++(kinsZ os++ex)))).Perm ((tv,tops)::(kinsR rs++(kinsZ (x::os)++ex))):=by
    refine (List.Perm.swap _ _ _).trans (List.Perm.cons _ ?_)
    have e:kinsZ (x::os)=(.slice none 0 0,[])::kinsZ os:=by unfold kinsZ;rw [List.map_cons,hl,hlv]
    rw [e,List.cons_append];exact List.perm_middle.symm
  have hSZ:∀ b∈ov.ownBlock.toList,b < w.heap.size→b∈ov'.ownBlock.toList++Z:=fun b hb _=>zt.sub _ (h.zo b (by simpa using hb)).1
  refine ⟨MM.own_far h.row f (off_ownZ h.row h.op (by decide)),?_,((h.kin.far f (fun k hk=>off_ownZ (h.kin.each k hk) h.op (by decide))).none_).perm pm,fun b hb=>?_,fun b hb=>?_,fun b hb=>zt.sub _ (h.sub b hb),fun b hb=>inMore (h.zf b hb),newIn h.zo (fun b hb=>h.z b (h.sub b hb)) hat,fun k hk b hb=>?_,fun y hy=>?_⟩
  · rw [List.length_cons,List.reverse_cons,pzC_snoc];exact hr
  · rcases zt.new b hb with h1 | h1
    · exact h.low b h1
    · omega
  · rcases List.mem_append.1 hb with hb | hb
    · exact (MM.own_lt hr b (by simpa using hb)).1
    · exact Nat.lt_of_lt_of_le (h.z b hb) f.size
  · rcases List.mem_cons.1 (pm.mem_iff.2 hk) with rfl | hk
    · simp [Value.ownBlock] at hb
    · exact inMore (h.zk k hk b hb)
  · rcases List.mem_cons.1 hy with rfl | hy
    · obtain ⟨vs,h2,h3⟩:=hp;exact ⟨vs,(h2.more zt.new).far f hSZ,(h3.more zt.new).far f hSZ⟩
    · exact h.prt.step zt.new f hSZ y hy
theorem Mc.more {lv':Value} {x:Pz} {n og c:Nat} (h:Mc w0 w Z Y q fv tv ov rs tops (x::os) ex) (h0:w0.heap.size≤w.heap.size) (hov:ov = .slice (some ⟨og,0,none⟩) (os.length+1) c)
    (hr:w1.ownsRow w0.heap.size 3 1 lv' (x.o.f.l.length+1) (ints x.o.f.l++[.int .i64 ((n:Nat):Int)])) (f:MM.Far x.lv.ownBlock.toList w w1) (hat:lv'.ownBlock=x.lv.ownBlock∨∃ b,lv'.ownBlock=some b∧w.heap.size≤b) :
    Mc w0 (w1.setCell ⟨og,os.length*10+8,none⟩ lv') (lv'.ownBlock.toList++Z) Y q fv tv ov rs tops (⟨x.o.add n,lv',x.av⟩::os) ex:=by
  have hmem:(x.lv,x.o.f.l)∈((tv,tops)::(kinsR rs++(kinsZ (x::os)++ex))):=by simp [kinsZ]
  have ht:=h.kin.each _ hmem;have hzv:=h.zk _ hmem;have hR:=MM.own_far h.row f (off_ownZ h.row ht (by decide));have hO:=MM.own_far h.op f (off_ownZ h.op ht (by decide));have pm:((tv,tops)::(kinsR rs++(kinsZ (x::os)++ex))).Perm ((x.lv,x.o.f.l)::((tv,tops)::(kinsR rs++(kinsZ os++ex)))):=by
    refine (List.Perm.cons _ ?_).trans (List.Perm.swap _ _ _)
    show (kinsR rs++((x.lv,x.o.f.l)::(kinsZ os++ex))).Perm _
    exact List.perm_middle
  have hK:=(h.kin.perm pm).grow hr f hat;have g:=cellF w1 og (os.length*10+8) lv';have hOs:=hO;rw [hov] at hOs;have zt:=newZ (v':=lv') hzv hat;have hogZ:=h.zo og (by rw [hov];rfl);have f2:MM.Far (og::x.lv.ownBlock.toList) w (w1.setCell ⟨og,os.length*10+8,none⟩ lv'):=(f.mono (fun b hb _=>List.mem_cons_of_mem _ hb)).trans g (fun b hb _=>by simp at hb;simp [hb]);have hSZ:∀ b∈og::x.lv.ownBlock.toList,b < w.heap.size→b∈lv'.ownBlock.toList++Z:=fun b hb _=>by
    rcases List.mem_cons.1 hb with rfl | hb
    · exact zt.sub _ hogZ.1
    · exact zt.sub _ (hzv b (by simpa using hb)).1
  have offo {e:TypeId} {size n:Nat} {v:Value} {xs:List Value} (ho:w1.ownsRow w0.heap.size e size v n xs) (ht:e≠100):∀ b,v.ownBlock=some b→b∉[og]:=by
    intro b hb hm;have:b=og:=by simpa using hm
    subst this;exact MM.own_own_ne ho hOs ht b hb rfl
  have pm2:((lv',x.o.f.l++[n])::((tv,tops)::(kinsR rs++(kinsZ os++ex)))).Perm ((tv,tops)::(kinsR rs++(kinsZ (⟨x.o.add n,lv',x.av⟩::os)++ex))):=by
    refine (List.Perm.swap _ _ _).trans (List.Perm.cons _ ?_)
    show ((lv',x.o.f.l++[n])::(kinsR rs++(kinsZ os++ex))).Perm (kinsR rs++((lv',x.o.f.l++[n])::(kinsZ os++ex)))
    exact List.perm_middle.symm
  refine ⟨MM.own_far hR g (offo hR (by decide)),?_,(hK.far g (fun k hk=>offo (hK.each k hk) (by decide))).perm pm2,fun b hb=>?_,fun b hb=>?_,fun b hb=>zt.sub _ (h.sub b hb),fun b hb=>inMore (h.zf b hb),fun b hb=>inMore (h.zo b hb),fun k hk b hb=>?_,fun y hy=>?_⟩
  · have hst:=(hOs.stored (os.length*10+8) lv').1;rw [hov,List.length_cons];have e:(pzC (x::os).reverse).set (os.length*10+8) lv'=pzC ((⟨x.o.add n,lv',x.av⟩:Pz)::os).reverse:=by
      rw [List.reverse_cons,List.reverse_cons,pzC_snoc,pzC_snoc,List.set_append_right _ _ (by rw [pzC_len,List.length_reverse];omega),pzC_len,List.length_reverse];congr 1
      rw [show os.length*10+8 - os.length*10=8 by omega];rfl
    rw [← e];exact hst
  · rcases zt.new b hb with h1 | h1
    · exact h.low b h1
    · omega
  · rcases List.mem_append.1 hb with hb | hb
    · exact Nat.lt_of_lt_of_le (MM.own_lt hr b (by simpa using hb)).1 g.size
    · exact Nat.lt_of_lt_of_le (h.z b hb) f2.size
  · rcases List.mem_cons.1 (pm2.mem_iff.2 hk) with rfl | hk
    · exact newIn hzv (fun b hb=>h.z b (h.sub b hb)) hat b hb
    · exact inMore (h.zk k (pm.mem_iff.2 (List.mem_cons_of_mem _ hk)) b hb)
  · have r:=h.prt.step zt.new f2 hSZ
    rcases List.mem_cons.1 hy with rfl | hy
    · exact r x (List.mem_cons_self ..)
    · exact r y (List.mem_cons_of_mem _ hy)
theorem Mc.open_at {x:Pz} (h:Mc w0 w Z Y q fv tv ov rs tops (x::os) ex):∃ og oc,ov = .slice (some ⟨og,0,none⟩) (os.length+1) oc∧os.length+1≤oc∧oc≤maxLen∧(∀ j u,(pzL x)[j]? = some u→w.cell? ⟨og,os.length*10+j,none⟩=some u) ∧
    (∀ i,w.frozen? ⟨og,i,none⟩=false)∧og < w.heap.size∧w0.heap.size≤og∧og∈Z∧og∉Y:=by
  have ho:=h.op;obtain ⟨A,c,e,_,hc1,hc2,_,hh⟩:=MO.form ho;have hlt:=fun b (hb:ov.ownBlock=some b)=>MM.own_lt ho b hb
  rcases hh with ⟨_,hz,_⟩ | ⟨og,rfl,_,_⟩
  · simp at hz
  have hzo:=h.zo;subst e;have hcells:=fun j u (hu:(pzC (x::os).reverse)[j]? = some u)=>@World.ownsRow.cells w _ _ _ _ _ _ ho og rfl j u hu
  refine ⟨og,c,rfl,hc1,hc2,fun j u hu=>?_,?_,(hlt og rfl).1,(hlt og rfl).2,hzo og rfl⟩
  · have:(pzC (x::os).reverse)[os.length*10+j]? = some u:=by
      rw [List.reverse_cons,pzC_snoc,List.getElem?_append_right (by rw [pzC_len,List.length_reverse];omega),pzC_len,List.length_reverse,show os.length*10+j - os.length*10=j by omega];exact hu
    have:=hcells _ u this;rw [MM.head_add] at this;exact this
  · intro i
    rcases ho.2 with ⟨hz,_⟩ | ⟨g,cap,cur,hz,_,hg,_⟩
    · cases hz
    · injection hz with hz;injection hz with hz;injection hz with hz;subst hz;simp [World.frozen?,hg]
end
theorem pz_one (x:Pz) {A2 A3:Option Addr} {n2 c2 n3 c3:Nat} (h2:x.lv = .slice A2 n2 c2) (h3:x.av = .slice A3 n3 c3):∀ u∈pzL x,u.oneCell'=true:=by
  intro u hu;simp only [pzL,h2,h3,List.mem_cons,List.not_mem_nil,or_false] at hu
  rcases hu with rfl | rfl | rfl | rfl | rfl | rfl | rfl | rfl | rfl | rfl <;> rfl
end SM
end Go.Proofs.YtodjaabcjojlkaaDoor
