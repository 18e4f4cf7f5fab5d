/-
  Several texts in one: ScoRow,ScoC3,ScoM1.
-/
import Derived.Test.YtkcgbhlnkfogeaaGreatDoorQScoMach
import Derived.Test.YtkcgbhlnkfogeaaGreatDoorQScoSt
import Derived.Test.YtkcgbhlnkfogeaaGreatDoorQScoTab
import Derived.Deep.RegionLaw
import Derived.Deep.DeepCutAuto
import Derived.Deep.QuietTactic
import Derived.BigQuiet
namespace Go.Proofs.YtkcgbhlnkfogeaaGreatDoor
open Go.RowKit
set_option linter.unusedVariables false
namespace SM
open LX RW6 EX SC
open EW (Sl Bx ptr num strs)
open RX (Nd)
open RM6 (Kin)
structure Pz where
  o:Oq
  lv:Value
  av:Value
def pzL (x:Pz):List Value:=[.int .i64 0,.int .u8 x.o.f.kind,num x.o.f.at_,num x.o.f.n,num x.o.f.a,.string x.o.f.s,.slice none 0 0,.int .u64 x.o.f.w,x.lv,x.av]
def pzC (os:List Pz):List Value:=os.flatMap pzL
theorem pzC_snoc (os:List Pz) (x:Pz):pzC (os++[x])=pzC os++pzL x:=by simp [pzC]
theorem pzC_len (os:List Pz):(pzC os).length=os.length*10:=by
  induction os with
  | nil=>rfl
  | cons x r ih=>simp only [pzC,List.flatMap_cons,List.length_append,List.length_cons] at ih ⊢;rw [ih];simp [pzL];omega
def kinsZ (os:List Pz):List (Value × List Nat):=os.map fun x=>(x.lv,x.o.f.l)
def prtZ (w:World) (Z:List Nat) (q:Nat) (os:List Pz):Prop:=∀ x∈os,∃ vs,Sl w Z x.av vs∧Ips w Z q vs x.o.ps
theorem prtZ.step {w w1:World} {Z Z' S:List Nat} {q:Nat} {os:List Pz} (h:prtZ w Z q os) (hZ:∀ b∈Z',b∈Z∨w.heap.size≤b) (f:MM.Far S w w1) (hS:∀ b∈S,b < w.heap.size→b∈Z'):prtZ w1 Z' q os:=fun x hx=>by
  obtain ⟨vs,h2,h3⟩:=h x hx;exact ⟨vs,(h2.more hZ).far f hS,(h3.more hZ).far f hS⟩
structure Mc (w0 w:World) (Z Y:List Nat) (q:Nat) (fv tv ov:Value) (rs:List (Rf × Value)) (tops:List Nat) (os:List Pz) (ex:List (Value × List Nat)):Prop where
  row:w.ownsRow w0.heap.size 57 8 fv rs.length (rfC rs)
  op:w.ownsRow w0.heap.size 145 10 ov os.length (pzC os.reverse)
  kin:Kin w w0.heap.size ((tv,tops)::(kinsR rs++(kinsZ os++ex)))
  low:∀ b∈Z,w0.heap.size≤b
  z:∀ b∈Z,b < w.heap.size
  sub:∀ b∈Y,b∈Z
  zf:∀ b,fv.ownBlock=some b→b∈Z∧b∉Y
  zo:∀ b,ov.ownBlock=some b→b∈Z∧b∉Y
  zk:∀ k∈((tv,tops)::(kinsR rs++(kinsZ os++ex))),∀ b,k.1.ownBlock=some b→b∈Z∧b∉Y
  prt:prtZ w Z q os
theorem off_ownZ {w:World} {e e':TypeId} {size size' n n' base base':Nat} {v v':Value} {xs xs':List Value} (h:w.ownsRow base e size v n xs) (h':w.ownsRow base' e' size' v' n' xs') (ht:e≠e'):∀ b,v.ownBlock=some b→b∉v'.ownBlock.toList:=by
  intro b hb hm;exact MM.own_own_ne h h' ht b hb (by simpa using hm)
section
variable {w0 w w1:World} {Z Y:List Nat} {q:Nat} {fv tv ov:Value} {rs:List (Rf × Value)} {tops:List Nat} {os:List Pz} {ex:List (Value × List Nat)}
theorem Mc.eval {Y':List Nat} (h:Mc w0 w Z Y q fv tv ov rs tops os ex) (hY:Yto w Y Y') (f:MM.Far Y w w1) (hl:∀ b∈Y',b < w1.heap.size) (h0:w0.heap.size≤w.heap.size):Mc w0 w1 (Y'++Z) Y' q fv tv ov rs tops os ex:=by
  have hno:∀ {b},b∈Z∧b∉Y→b∈Y'++Z∧b∉Y':=fun {b} hb=>⟨List.mem_append_right _ hb.1,fun hm=>(hY.new b hm).elim hb.2 (fun h1=>by have:=h.z b hb.1;omega)⟩
  refine ⟨MM.own_far h.row f (fun b hb=>(h.zf b hb).2),MM.own_far h.op f (fun b hb=>(h.zo b hb).2),h.kin.far f (fun k hk b hb=>(h.zk k hk b hb).2),fun b hb=>?_,fun b hb=>?_,fun b hb=>List.mem_append_left _ hb,fun b hb=>hno (h.zf b hb),fun b hb=>hno (h.zo b hb),fun k hk b hb=>hno (h.zk k hk b hb),h.prt.step (fun b hb=>?_) f (fun b hb _=>List.mem_append_right _ (h.sub b hb))⟩
  · rcases List.mem_append.1 hb with hb | hb
    · rcases hY.new b hb with h1 | h1
      · exact h.low b (h.sub b h1)
      · omega
    · exact h.low b hb
  · rcases List.mem_append.1 hb with hb | hb
    · exact hl b hb
    · exact Nat.lt_of_lt_of_le (h.z b hb) f.size
  · rcases List.mem_append.1 hb with hb | hb
    · exact (hY.new b hb).imp (h.sub b) id
    · exact .inl hb
theorem Mc.to (h:Mc w0 w Z Y q fv tv ov rs tops os ex) (f:MM.Far [] w w1):Mc w0 w1 Z Y q fv tv ov rs tops os ex :=
  ⟨MM.own_far h.row f (by simp),MM.own_far h.op f (by simp),h.kin.far f (by simp),h.low,fun b hb=>Nat.lt_of_lt_of_le (h.z b hb) f.size,h.sub,h.zf,h.zo,h.zk,h.prt.step (fun b hb=>.inl hb) f (by simp)⟩
theorem Mc.cell (h:Mc w0 w Z Y q fv tv ov rs tops os ex) (hq:q∈Y) (i:Nat) (u:Value):Mc w0 (w.setCell ⟨q,i,none⟩ u) Z Y q fv tv ov rs tops os ex:=by
  have f:=cellF w q i u;have off:∀ {b},b∈Z∧b∉Y→b∉[q]:=fun hb hm=>hb.2 (by rw [List.mem_singleton.1 hm];exact hq)
  exact ⟨MM.own_far h.row f (fun b hb=>off (h.zf b hb)),MM.own_far h.op f (fun b hb=>off (h.zo b hb)),h.kin.far f (fun k hk b hb=>off (h.zk k hk b hb)),h.low,fun b hb=>Nat.lt_of_lt_of_le (h.z b hb) f.size,h.sub,h.zf,h.zo,h.zk,h.prt.step (fun b hb=>.inl hb) f (fun b hb _=>by rw [List.mem_singleton.1 hb];exact h.sub _ hq)⟩
theorem Mc.drop {x:Pz} {og c:Nat} (h:Mc w0 w Z Y q fv tv (.slice (some ⟨og,0,none⟩) (os.length+1) c) rs tops (x::os) ex):Mc w0 w Z Y q fv tv (.slice (some ⟨og,0,none⟩) os.length c) rs tops os ((x.lv,x.o.f.l)::ex):=by
  have pm:((tv,tops)::(kinsR rs++(kinsZ (x::os)++ex))).Perm ((tv,tops)::(kinsR rs++(kinsZ os++((x.lv,x.o.f.l)::ex)))):=by
    refine List.Perm.cons _ (List.Perm.append_left _ ?_)
    show ((x.lv,x.o.f.l)::(kinsZ os++ex)).Perm (kinsZ os++(x.lv,x.o.f.l)::ex)
    exact List.perm_middle.symm
  refine ⟨h.row,?_,h.kin.perm pm,h.low,h.z,h.sub,h.zf,fun b hb=>h.zo b hb,fun k hk=>h.zk k (pm.mem_iff.2 hk),fun y hy=>h.prt y (List.mem_cons_of_mem _ hy)⟩
  have:=RC6.own_front (n:=os.length+1) h.op os.length (by omega);rw [List.reverse_cons,pzC_snoc,List.take_append_of_le_length (by rw [pzC_len,List.length_reverse];omega),List.take_of_length_le (by rw [pzC_len,List.length_reverse];omega)] at this;exact this
theorem newIn {w:World} {Z Y:List Nat} {v v':Value} (hv:∀ b,v.ownBlock=some b→b∈Z∧b∉Y) (hl:∀ b∈Y,b < w.heap.size) (hat:v'.ownBlock=v.ownBlock∨∃ b,v'.ownBlock=some b∧w.heap.size≤b):∀ b,v'.ownBlock=some b→b∈v'.ownBlock.toList++Z∧b∉Y:=fun b hb =>
  ⟨List.mem_append_left _ (by simpa using hb),fun hm=>by
    rcases hat with e | ⟨g,e,hg⟩
    · exact (hv b (e ▸ hb)).2 hm
    · rw [e] at hb;injection hb with hb
      have:=hl b hm;omega⟩
theorem newZ {w:World} {Z Y:List Nat} {v v':Value} (hv:∀ b,v.ownBlock=some b→b∈Z∧b∉Y) (hat:v'.ownBlock=v.ownBlock∨∃ b,v'.ownBlock=some b∧w.heap.size≤b):Yto w Z (v'.ownBlock.toList++Z):=addY (fun b hb=>(hv b hb).1) hat
theorem inMore {Z Y T:List Nat} {b:Nat} (h:b∈Z∧b∉Y):b∈T++Z∧b∉Y:=⟨List.mem_append_right _ h.1,h.2⟩
theorem Mc.form {fv':Value} (x:Rf) (hx:Value) (h:Mc w0 w Z Y q fv tv ov rs tops os ((hx,x.l)::ex)) (h0:w0.heap.size≤w.heap.size)
    (hr:w1.ownsRow w0.heap.size 57 8 fv' (rs.length+1) (rfC rs++rfL (x,hx))) (f:MM.Far fv.ownBlock.toList w w1) (hat:fv'.ownBlock=fv.ownBlock∨∃ b,fv'.ownBlock=some b∧w.heap.size≤b) :
    Mc w0 w1 (fv'.ownBlock.toList++Z) Y q fv' tv ov (rs++[(x,hx)]) tops os ex:=by
  have zt:=newZ (v':=fv') h.zf hat;have pm:((tv,tops)::(kinsR rs++(kinsZ os++((hx,x.l)::ex)))).Perm ((tv,tops)::(kinsR (rs++[(x,hx)])++(kinsZ os++ex))):=by
    refine List.Perm.cons _ ?_
    rw [show kinsR (rs++[(x,hx)])=kinsR rs++[(hx,x.l)] by simp [kinsR],List.append_assoc];refine List.Perm.append_left _ ?_
    rw [List.singleton_append];exact List.perm_middle
  refine ⟨?_,MM.own_far h.op f (off_ownZ h.op h.row (by decide)),(h.kin.far f (fun k hk=>off_ownZ (h.kin.each k hk) h.row (by decide))).perm pm,fun b hb=>?_,fun b hb=>?_,fun b hb=>zt.sub _ (h.sub b hb),newIn h.zf (fun b hb=>h.z b (h.sub b hb)) hat,fun b hb=>inMore (h.zo b hb),fun k hk b hb=>inMore (h.zk k (pm.mem_iff.2 hk) b hb),h.prt.step zt.new f (fun b hb _=>zt.sub _ (h.zf b (by simpa using hb)).1)⟩
  · rw [List.length_append,rfC_snoc];exact hr
  · rcases zt.new b hb with h1 | h1
    · exact h.low b h1
    · omega
  · rcases List.mem_append.1 hb with hb | hb
    · exact (MM.own_lt hr b (by simpa using hb)).1
    · exact Nat.lt_of_lt_of_le (h.z b hb) f.size
theorem Mc.top {tv':Value} {n:Nat} (h:Mc w0 w Z Y q fv tv ov rs tops os ex) (h0:w0.heap.size≤w.heap.size)
    (hr:w1.ownsRow w0.heap.size 3 1 tv' (tops.length+1) (ints tops++[.int .i64 ((n:Nat):Int)])) (f:MM.Far tv.ownBlock.toList w w1) (hat:tv'.ownBlock=tv.ownBlock∨∃ b,tv'.ownBlock=some b∧w.heap.size≤b) :
    Mc w0 w1 (tv'.ownBlock.toList++Z) Y q fv tv' ov rs (tops++[n]) os ex:=by
  have ht:=h.kin.each _ (List.mem_cons_self ..);have hz:=h.zk _ (List.mem_cons_self ..);have zt:=newZ (v':=tv') hz hat;refine ⟨MM.own_far h.row f (off_ownZ h.row ht (by decide)),MM.own_far h.op f (off_ownZ h.op ht (by decide)),h.kin.grow hr f hat,fun b hb=>?_,fun b hb=>?_,fun b hb=>zt.sub _ (h.sub b hb),fun b hb=>inMore (h.zf b hb),fun b hb=>inMore (h.zo b hb),fun k hk b hb=>?_,h.prt.step zt.new f (fun b hb _=>zt.sub _ (hz b (by simpa using hb)).1)⟩
  · rcases zt.new b hb with h1 | h1
    · exact h.low b h1
    · omega
  · rcases List.mem_append.1 hb with hb | hb
    · exact (MM.own_lt hr b (by simpa using hb)).1
    · exact Nat.lt_of_lt_of_le (h.z b hb) f.size
  · rcases List.mem_cons.1 hk with rfl | hk
    · exact newIn hz (fun b hb=>h.z b (h.sub b hb)) hat b hb
    · exact inMore (h.zk k (List.mem_cons_of_mem _ hk) b hb)
theorem Mc.push {ov':Value} (x:Pz) (hl:x.o.f.l=[]) (hlv:x.lv = .slice none 0 0) (h:Mc w0 w Z Y q fv tv ov rs tops os ex) (h0:w0.heap.size≤w.heap.size) (hp:∃ vs,Sl w Z x.av vs∧Ips w Z q vs x.o.ps)
    (hr:w1.ownsRow w0.heap.size 145 10 ov' (os.length+1) (pzC os.reverse++pzL x)) (f:MM.Far ov.ownBlock.toList w w1) (hat:ov'.ownBlock=ov.ownBlock∨∃ b,ov'.ownBlock=some b∧w.heap.size≤b) :
    Mc w0 w1 (ov'.ownBlock.toList++Z) Y q fv tv ov' rs tops (x::os) ex:=by
  have zt:=newZ (v':=ov') h.zo hat;have pm:((.slice none 0 0,[])::((tv,tops)::(kinsR rs++(kinsZ os++ex)))).Perm ((tv,tops)::(kinsR rs++(kinsZ (x::os)++ex))):=by
    refine (List.Perm.swap _ _ _).trans (List.Perm.cons _ ?_)
    have e:kinsZ (x::os)=(.slice none 0 0,[])::kinsZ os:=by unfold kinsZ;rw [List.map_cons,hl,hlv]
    rw [e,List.cons_append];exact List.perm_middle.symm
  have hSZ:∀ b∈ov.ownBlock.toList,b < w.heap.size→b∈ov'.ownBlock.toList++Z:=fun b hb _=>zt.sub _ (h.zo b (by simpa using hb)).1
  refine ⟨MM.own_far h.row f (off_ownZ h.row h.op (by decide)),?_,((h.kin.far f (fun k hk=>off_ownZ (h.kin.each k hk) h.op (by decide))).none_).perm pm,fun b hb=>?_,fun b hb=>?_,fun b hb=>zt.sub _ (h.sub b hb),fun b hb=>inMore (h.zf b hb),newIn h.zo (fun b hb=>h.z b (h.sub b hb)) hat,fun k hk b hb=>?_,fun y hy=>?_⟩
  · rw [List.length_cons,List.reverse_cons,pzC_snoc];exact hr
  · rcases zt.new b hb with h1 | h1
    · exact h.low b h1
    · omega
  · rcases List.mem_append.1 hb with hb | hb
    · exact (MM.own_lt hr b (by simpa using hb)).1
    · exact Nat.lt_of_lt_of_le (h.z b hb) f.size
  · rcases List.mem_cons.1 (pm.mem_iff.2 hk) with rfl | hk
    · simp [Value.ownBlock] at hb
    · exact inMore (h.zk k hk b hb)
  · rcases List.mem_cons.1 hy with rfl | hy
    · obtain ⟨vs,h2,h3⟩:=hp;exact ⟨vs,(h2.more zt.new).far f hSZ,(h3.more zt.new).far f hSZ⟩
    · exact h.prt.step zt.new f hSZ y hy
theorem Mc.more {lv':Value} {x:Pz} {n og c:Nat} (h:Mc w0 w Z Y q fv tv ov rs tops (x::os) ex) (h0:w0.heap.size≤w.heap.size) (hov:ov = .slice (some ⟨og,0,none⟩) (os.length+1) c)
    (hr:w1.ownsRow w0.heap.size 3 1 lv' (x.o.f.l.length+1) (ints x.o.f.l++[.int .i64 ((n:Nat):Int)])) (f:MM.Far x.lv.ownBlock.toList w w1) (hat:lv'.ownBlock=x.lv.ownBlock∨∃ b,lv'.ownBlock=some b∧w.heap.size≤b) :
    Mc w0 (w1.setCell ⟨og,os.length*10+8,none⟩ lv') (lv'.ownBlock.toList++Z) Y q fv tv ov rs tops (⟨x.o.add n,lv',x.av⟩::os) ex:=by
  have hmem:(x.lv,x.o.f.l)∈((tv,tops)::(kinsR rs++(kinsZ (x::os)++ex))):=by simp [kinsZ]
  have ht:=h.kin.each _ hmem;have hzv:=h.zk _ hmem;have hR:=MM.own_far h.row f (off_ownZ h.row ht (by decide));have hO:=MM.own_far h.op f (off_ownZ h.op ht (by decide));have pm:((tv,tops)::(kinsR rs++(kinsZ (x::os)++ex))).Perm ((x.lv,x.o.f.l)::((tv,tops)::(kinsR rs++(kinsZ os++ex)))):=by
    refine (List.Perm.cons _ ?_).trans (List.Perm.swap _ _ _)
    show (kinsR rs++((x.lv,x.o.f.l)::(kinsZ os++ex))).Perm _
    exact List.perm_middle
  have hK:=(h.kin.perm pm).grow hr f hat;have g:=cellF w1 og (os.length*10+8) lv';have hOs:=hO;rw [hov] at hOs;have zt:=newZ (v':=lv') hzv hat;have hogZ:=h.zo og (by rw [hov];rfl);have f2:MM.Far (og::x.lv.ownBlock.toList) w (w1.setCell ⟨og,os.length*10+8,none⟩ lv'):=(f.mono (fun b hb _=>List.mem_cons_of_mem _ hb)).trans g (fun b hb _=>by simp at hb;simp [hb]);have hSZ:∀ b∈og::x.lv.ownBlock.toList,b < w.heap.size→b∈lv'.ownBlock.toList++Z:=fun b hb _=>by
    rcases List.mem_cons.1 hb with rfl | hb
    · exact zt.sub _ hogZ.1
    · exact zt.sub _ (hzv b (by simpa using hb)).1
  have offo {e:TypeId} {size n:Nat} {v:Value} {xs:List Value} (ho:w1.ownsRow w0.heap.size e size v n xs) (ht:e≠145):∀ b,v.ownBlock=some b→b∉[og]:=by
    intro b hb hm;have:b=og:=by simpa using hm
    subst this;exact MM.own_own_ne ho hOs ht b hb rfl
  have pm2:((lv',x.o.f.l++[n])::((tv,tops)::(kinsR rs++(kinsZ os++ex)))).Perm ((tv,tops)::(kinsR rs++(kinsZ (⟨x.o.add n,lv',x.av⟩::os)++ex))):=by
    refine (List.Perm.swap _ _ _).trans (List.Perm.cons _ ?_)
    show ((lv',x.o.f.l++[n])::(kinsR rs++(kinsZ os++ex))).Perm (kinsR rs++((lv',x.o.f.l++[n])::(kinsZ os++ex)))
    exact List.perm_middle.symm
  refine ⟨MM.own_far hR g (offo hR (by decide)),?_,(hK.far g (fun k hk=>offo (hK.each k hk) (by decide))).perm pm2,fun b hb=>?_,fun b hb=>?_,fun b hb=>zt.sub _ (h.sub b hb),fun b hb=>inMore (h.zf b hb),fun b hb=>inMore (h.zo b hb),fun k hk b hb=>?_,fun y hy=>?_⟩
  · have hst:=(hOs.stored (os.length*10+8) lv').1;rw [hov,List.length_cons];have e:(pzC (x::os).reverse).set (os.length*10+8) lv'=pzC ((⟨x.o.add n,lv',x.av⟩:Pz)::os).reverse:=by
      rw [List.reverse_cons,List.reverse_cons,pzC_snoc,pzC_snoc,List.set_append_right _ _ (by rw [pzC_len,List.length_reverse];omega),pzC_len,List.length_reverse];congr 1
      rw [show os.length*10+8 - os.length*10=8 by omega];rfl
    rw [← e];exact hst
  · rcases zt.new b hb with h1 | h1
    · exact h.low b h1
    · omega
  · rcases List.mem_append.1 hb with hb | hb
    · exact Nat.lt_of_lt_of_le (MM.own_lt hr b (by simpa using hb)).1 g.size
    · exact Nat.lt_of_lt_of_le (h.z b hb) f2.size
  · rcases List.mem_cons.1 (pm2.mem_iff.2 hk) with rfl | hk
    · exact newIn hzv (fun b hb=>h.z b (h.sub b hb)) hat b hb
    · exact inMore (h.zk k (pm.mem_iff.2 (List.mem_cons_of_mem _ hk)) b hb)
  · have r:=h.prt.step zt.new f2 hSZ
    rcases List.mem_cons.1 hy with rfl | hy
    · exact r x (List.mem_cons_self ..)
    · exact r y (List.mem_cons_of_mem _ hy)
theorem Mc.open_at {x:Pz} (h:Mc w0 w Z Y q fv tv ov rs tops (x::os) ex):∃ og oc,ov = .slice (some ⟨og,0,none⟩) (os.length+1) oc∧os.length+1≤oc∧oc≤maxLen∧(∀ j u,(pzL x)[j]? = some u→w.cell? ⟨og,os.length*10+j,none⟩=some u) ∧
    (∀ i,w.frozen? ⟨og,i,none⟩=false)∧og < w.heap.size∧w0.heap.size≤og∧og∈Z∧og∉Y:=by
  have ho:=h.op;obtain ⟨A,c,e,_,hc1,hc2,_,hh⟩:=MO.form ho;have hlt:=fun b (hb:ov.ownBlock=some b)=>MM.own_lt ho b hb
  rcases hh with ⟨_,hz,_⟩ | ⟨og,rfl,_,_⟩
  · simp at hz
  have hzo:=h.zo;subst e;have hcells:=fun j u (hu:(pzC (x::os).reverse)[j]? = some u)=>@World.ownsRow.cells w _ _ _ _ _ _ ho og rfl j u hu
  refine ⟨og,c,rfl,hc1,hc2,fun j u hu=>?_,?_,(hlt og rfl).1,(hlt og rfl).2,hzo og rfl⟩
  · have:(pzC (x::os).reverse)[os.length*10+j]? = some u:=by
      rw [List.reverse_cons,pzC_snoc,List.getElem?_append_right (by rw [pzC_len,List.length_reverse];omega),pzC_len,List.length_reverse,show os.length*10+j - os.length*10=j by omega];exact hu
    have:=hcells _ u this;rw [MM.head_add] at this;exact this
  · intro i
    rcases ho.2 with ⟨hz,_⟩ | ⟨g,cap,cur,hz,_,hg,_⟩
    · cases hz
    · injection hz with hz;injection hz with hz;injection hz with hz;subst hz;simp [World.frozen?,hg]
end
theorem pz_one (x:Pz) {A2 A3:Option Addr} {n2 c2 n3 c3:Nat} (h2:x.lv = .slice A2 n2 c2) (h3:x.av = .slice A3 n3 c3):∀ u∈pzL x,u.oneCell'=true:=by
  intro u hu;simp only [pzL,h2,h3,List.mem_cons,List.not_mem_nil,or_false] at hu
  rcases hu with rfl | rfl | rfl | rfl | rfl | rfl | rfl | rfl | rfl | rfl <;> rfl
end SM
end Go.Proofs.YtkcgbhlnkfogeaaGreatDoor
namespace Go.Proofs.YtkcgbhlnkfogeaaGreatDoor
open Go.RowKit
set_option linter.unusedVariables false
namespace SM
open LX RW6 EX SC
open EW (Sl Bx ptr num strs)
open RX (Nd)
open RM6 (Kin)
def LvX (w0 w:World) (Y:List Nat) (q g:Nat) (h:Hd) (own:ByteArray→Nat) (lev:Nat) (row:List Bd) (N:List ByteArray) (im:Value) (wr:World):Prop :=
  ∃ Y1 bv mv sv S,MM.Far Y w wr∧Yto w Y Y1∧Sb w0 wr Y1 q g h own lev row (inn row) N bv im mv sv S
theorem inn_less {row:List Bd} (h:HidOk row) {k:Nat} (hk:k < row.length):(fun x=>if x=row[k].name then row[k].hid else inn (row.take (k+1)) x)=inn (row.take k):=funext fun x=>inn_take h hk x
section
variable {w0 w w1:World} {Y Z:List Nat} {q g:Nat} {h:Hd} {own:ByteArray→Nat} {R:Rws} {N:List ByteArray}
set_option maxHeartbeats 8000000 in
set_option maxRecDepth 20000 in
theorem leave_any {r:List ByteArray} (s:Sc w0 w Y q g h own (r::R) N) (hl:R.length≤1000000000000) (hB:(bnd R).length+r.length≤1000000000000) :
    Calls Tryz.prog 150 #[.pointer (some ⟨q,4,none⟩),num r.length] w fun e w'=>e = .returned (.tuple #[])∧ScQ w0 w Y q g h own R N w':=by
  obtain ⟨bv,im,mv,sv,S,s⟩:=s;have c4:=s.head.at (i:=4) rfl;have f4:=s.head.frozen 4;obtain ⟨m,hm⟩:∃ m,r.length=m:=⟨_,rfl⟩
  have hbl:=(bnd_take r R).2;have hbt:=(bnd_take r R).1;have hhid:=bnd_hid (r::R);rw [hm] at hbl hB ⊢;obtain ⟨L,hL⟩:∃ L,R.length=L:=⟨_,rfl⟩
  have hL1:(r::R).length=L+1:=by rw [List.length_cons,hL]
  have hL9:L≤1000000000000:=by omega
  rw [hL1] at s c4;rw [show ((L+1:Nat):Int)=(L:Int)+1 by omega] at c4;have hS0:Sb w0 (w.setCell ⟨q,4,none⟩ (.int .i64 (L:Int))) Y q g h own L (bnd (r::R)) (inn (bnd (r::R))) N bv im mv sv S:=s.setLev L;have hF0:MM.Far Y w (w.setCell ⟨q,4,none⟩ (.int .i64 (L:Int))):=(cellF w q 4 _).mono (fun b hb _=>by rw [List.mem_singleton.1 hb];exact s.yq);have HF0:=Lib.hid hF0;have HS0:=Lib.hid hS0;have HBL:=Lib.hid hbl;have HBT:=Lib.hid hbt;have HH:=Lib.hid hhid;have HL:=Lib.hid hL;have HB:=Lib.hid hB;clear s hS0 hF0 hbl hbt hhid hm hL hL1 hB hl;unfold num at *;go_enter Tryz.func150,Tryz.ntmps150
  go_wp2
  go_loopw [14] (fun s14 wr=>∃ k:Nat,k≤m∧s14 = .int .i64 (k:Int)∧Hid (∃ im,LvX w0 w Y q g h own L ((bnd (r::R)).take ((bnd R).length+m - k)) N im wr)) (fun s14 _=>m - (intOf s14).toNat)
  case atStart =>
    refine ⟨0,by omega,rfl,Lib.hid ?_⟩
    rw [List.take_of_length_le (by have:=HBL.out;omega)];exact ⟨_,_,_,_,_,_,HF0.out,Yto.refl _ _,HS0.out⟩
  case round =>
    obtain ⟨k,hk,rfl,hI⟩:=hrel;clear HS0 HF0;by_cases hlt:k < m
    · obtain ⟨j,hj⟩:∃ j,(bnd R).length+m - k=j+1:=⟨(bnd R).length+m - k - 1,by omega⟩
      rw [hj] at hI;obtain ⟨im,Y1,bv,mv,sv,S,hF1,hy1,s1⟩:=hI.out;have hjl:j < (bnd (r::R)).length:=by have:=HBL.out;omega
      have hlen:((bnd (r::R)).take (j+1)).length=j+1:=by rw [List.length_take];omega
      obtain ⟨bA,bc,he,hbc1,hbc2,hat⟩:=s1.at5;subst he;obtain ⟨bb,rfl,hbb,d0,d1,d2,d3⟩:=hat j (by omega);have hinn:=inn_less HH.out hjl;have eg:((bnd (r::R)).take (j+1))[j]'(by omega)=(bnd (r::R))[j]:=by rw [List.getElem_take]
      rw [eg] at d0 d1 d2 d3;have hti:inn ((bnd (r::R)).take (j+1)) (bnd (r::R))[j].name≠0:=by
        rw [List.take_add_one,List.getElem?_eq_getElem hjl];simp only [Option.toList]
        rw [inn_snoc,if_pos rfl];omega
      have hM:∃ mb,im = .map (some mb)∧MapN wr mb (inn ((bnd (r::R)).take (j+1))):=by
        rcases s1.map with ⟨_,h1⟩ | h1
        · exact absurd (h1 _) hti
        · exact h1
      obtain ⟨mb,rfl,hM⟩:=hM;rw [hlen] at s1 hbc1;have HINN:=Lib.hid hinn;have hcut:((bnd (r::R)).take (j+1)).take j=(bnd (r::R)).take j:=by rw [List.take_take,Nat.min_eq_left (by omega)]
      have HCUT:=Lib.hid hcut;have HLEN:=Lib.hid hlen;have HJ:Hid ((bnd R).length+m - (k+1)=j):=Lib.hid (by omega);have hm9:m≤1000000000000:=by have:=HB.out;omega
      generalize hX:(bnd (r::R))[j]=X at *;obtain ⟨xn,xl,xp,xh⟩:=X;simp only at d0 d1 d2 d3 HINN
      have c5:=s1.head.at (i:=5) rfl;have c6:=s1.head.at (i:=6) rfl;obtain ⟨OB,hOB⟩:∃ o:Obj,.cells #[.string xn,.int .i64 (xl:Int),.int .i64 (xp:Int),.int .i64 (xh:Int)] 249=o:=⟨_,rfl⟩
      have FA:MM.Far [] wr (wr.alloc OB):=(MM.Far.refl [] wr).alloc _;have c6a:=farC FA c6;obtain ⟨w3,hup,hset,hfar⟩:=(hM.far FA.drew (by simp)).up xn xh;rw [HINN.out] at hset;have s3:=(s1.to FA.drew).upd hset hfar;have k5:=s3.head.at (i:=5) rfl;have kf5:=s3.head.frozen 5;have HS3:=Lib.hid s3;have HF1:=Lib.hid hF1;have HY1:=Lib.hid hy1;have HFA:=Lib.hid (FA.drew.mono (S':=[mb]) (by simp) |>.trans hfar (fun b hb _=>hb));have HMB:=Lib.hid (s1.ym mb rfl);have HQ:=Lib.hid s1.yq;have hb0:¬ bc=0:=by omega
      unfold maxLen at hbc2;have hw1:((j+1:Nat):Int) - 1=(j:Int):=by omega
      have hi0:(0:Int)≤(j:Int):=by omega
      have hi1:(j:Int) < (j:Int)+1:=by omega
      have hi2:(j:Int)≤(bc:Int):=by omega
      clear s1 hM hset hfar s3 hF1 hy1 hinn hcut hlen hat eg hti hX FA hI hjl hj;subst hOB;unfold num at *;go_wp2;go_region
      all_goals
        go_wp2;go_roundw
        case rel =>
          refine ⟨k+1,by omega,by go_num,Lib.hid ?_⟩
          rw [HJ.out];have k1:=HS3.out.cut j (by omega) HLEN.out.symm;rw [HCUT.out] at k1;exact ⟨_,Y1,_,_,_,_,far_y HF1.out ⟨HY1.out.sub,HY1.out.new⟩ (((HFA.out.mono (S':=Y1) (fun b hb _=>by rw [List.mem_singleton.1 hb];exact HMB.out))).trans (cellF _ q 5 _) (fun b hb _=>by rw [List.mem_singleton.1 hb];exact HQ.out)) (fun b hb _=>hb),⟨HY1.out.sub,HY1.out.new⟩,k1⟩
        case measure=>simp [intOf];omega
    · obtain rfl:k=m:=by omega
      have hi1:¬ (k:Int) < (k:Int):=by omega
      go_wp2;refine bodyPost_end (results_none rfl _ _ _) rfl ?_
      have hB:(bnd R).length+k - k=(bnd R).length:=by omega
      obtain ⟨im,Y1,bv,mv,sv,S,hF1,hy1,s1⟩:=hI.out;rw [hB,HBT.out,← HL.out] at s1;exact ⟨rfl,Y1,hy1,hF1,_,_,_,_,_,s1⟩
end
end SM
end Go.Proofs.YtkcgbhlnkfogeaaGreatDoor
namespace Go.Proofs.YtkcgbhlnkfogeaaGreatDoor
open Go.RowKit
set_option linter.unusedVariables false
namespace SM
open LX RW6 EX SC
open EW (Sl Bx ptr num strs sz_alloc)
open RX (Nd)
open RM6 (Kin)
theorem plansZ_slice:Tryz.prog.underlying 99=some (.slice 145):=by kernel_rfl
theorem planZ_info:(Tryz.prog.info? 145).map (fun i=>(i.zero,i.size,i.bytes))=some (some (.agg #[.int .i64 0,.int .u8 0,.int .i64 0,.int .i64 0,.int .i64 0,.string ⟨#[]⟩,.slice none 0 0,.int .u64 0,.slice none 0 0,.slice none 0 0]),10,136):=by kernel_rfl
structure Sy (w0 w:World) (Z Y:List Nat) (q g:Nat) (dv lv dm:Value) (own:ByteArray→Nat) (R:Rws) (N:List ByteArray) (fv tv hv ov:Value) (rs:List (Rf × Value)) (tops:List Nat) (os:List Pz) (ex:List (Value × List Nat)):Prop where
  sc:Sc w0 w Y q g ⟨dv,lv,dm,fv,tv,hv⟩ own R N
  mc:Mc w0 w Z Y q fv tv ov rs tops os ex
def aftO (n:Nat):List Oq→List Oq
  | []=>[]
  | o::os=>o.add n::os
def aftT (n:Nat) (os:List Oq) (tops:List Nat):List Nat:=match os with
  | []=>tops++[n]
  | _::_=>tops
section
variable {w0 w w1:World} {Z Y:List Nat} {q g:Nat} {dv lv dm:Value} {own:ByteArray→Nat} {R:Rws} {N:List ByteArray} {fv tv hv ov:Value} {rs:List (Rf × Value)} {tops:List Nat} {os:List Pz} {ex:List (Value × List Nat)}
theorem Sy.to (h:Sy w0 w Z Y q g dv lv dm own R N fv tv hv ov rs tops os ex) (f:MM.Far [] w w1):Sy w0 w1 Z Y q g dv lv dm own R N fv tv hv ov rs tops os ex:=⟨h.sc.to f,h.mc.to f⟩
theorem Sy.head (h:Sy w0 w Z Y q g dv lv dm own R N fv tv hv ov rs tops os ex):∃ bv im,MM.Row w q 101 [dv,lv,ptr g,dm,num R.length,bv,im,fv,tv,hv]:=h.sc.head
theorem Sy.far (h:Sy w0 w Z Y q g dv lv dm own R N fv tv hv ov rs tops os ex):MM.Far [] w0 w:=by
  obtain ⟨bv,im,mv,sv,S,s⟩:=h.sc;exact s.far
theorem Sc.yq {h:Hd} (s:Sc w0 w Y q g h own R N):q∈Y:=by
  obtain ⟨bv,im,mv,sv,S,s⟩:=s;exact s.yq
theorem Sc.ylt {h:Hd} (s:Sc w0 w Y q g h own R N):∀ b∈Y,b < w.heap.size:=by
  obtain ⟨bv,im,mv,sv,S,s⟩:=s;exact s.lt
theorem Sc.dmlt {h:Hd} (s:Sc w0 w Y q g h own R N):∀ b,h.dm = .map (some b)→∃ es clock,w.heap[b]? = some (.map es clock):=by
  obtain ⟨bv,im,mv,sv,S,s⟩:=s;intro b e
  rcases s.dfd with ⟨h1,_⟩ | ⟨mb,h1,hm⟩
  · rw [h1] at e;cases e
  · rw [h1] at e;cases e;obtain ⟨es,clock,hb,_⟩:=hm.has;exact ⟨es,clock,hb⟩
theorem Sc.row {h:Hd} {e:TypeId} {size n base:Nat} {v:Value} {xs:List Value} (s:Sc w0 w Y q g h own R N) (hr:w.ownsRow base e size v n xs) (hb:w0.heap.size≤base) (hy:∀ b,v.ownBlock=some b→b∉Y) (f:MM.Far v.ownBlock.toList w w1):Sc w0 w1 Y q g h own R N :=
  s.off f (fun b hm=>by
    have hv:v.ownBlock=some b:=by simpa using hm
    refine ⟨hy b hv,Nat.le_trans hb (MM.own_lt hr b hv).2,fun e=>?_⟩
    obtain ⟨es,clock,hmb⟩:=s.dmlt b e;obtain ⟨cs,hcs⟩:=NW.own_block hr b hv;rw [hmb] at hcs;cases hcs)
theorem Sc.setF {h:Hd} (s:Sc w0 w Y q g h own R N) (u:Value):Sc w0 (w.setCell ⟨q,7,none⟩ u) Y q g { h with fv:=u } own R N:=by
  obtain ⟨bv,im,mv,sv,S,s⟩:=s;exact ⟨bv,im,mv,sv,S,s.setF u⟩
theorem Sc.setT {h:Hd} (s:Sc w0 w Y q g h own R N) (u:Value):Sc w0 (w.setCell ⟨q,8,none⟩ u) Y q g { h with tv:=u } own R N:=by
  obtain ⟨bv,im,mv,sv,S,s⟩:=s;exact ⟨bv,im,mv,sv,S,s.setT u⟩
theorem Sc.setH {h:Hd} (s:Sc w0 w Y q g h own R N) (u:Value):Sc w0 (w.setCell ⟨q,9,none⟩ u) Y q g { h with hv:=u } own R N:=by
  obtain ⟨bv,im,mv,sv,S,s⟩:=s;exact ⟨bv,im,mv,sv,S,s.setH u⟩
theorem Sy.form {fv':Value} (x:Rf) (hx:Value) (h:Sy w0 w Z Y q g dv lv dm own R N fv tv hv ov rs tops os ((hx,x.l)::ex))
    (hr:w1.ownsRow w0.heap.size 57 8 fv' (rs.length+1) (rfC rs++rfL (x,hx))) (f:MM.Far fv.ownBlock.toList w w1) (hat:fv'.ownBlock=fv.ownBlock∨∃ b,fv'.ownBlock=some b∧w.heap.size≤b) :
    Sy w0 (w1.setCell ⟨q,7,none⟩ fv') (fv'.ownBlock.toList++Z) Y q g dv lv dm own R N fv' tv hv ov (rs++[(x,hx)]) tops os ex :=
  ⟨(h.sc.row h.mc.row (Nat.le_refl _) (fun b hb=>(h.mc.zf b hb).2) f).setF fv',(h.mc.form x hx h.far.size hr f hat).cell h.sc.yq 7 fv'⟩
theorem Sy.top {tv':Value} {n:Nat} (h:Sy w0 w Z Y q g dv lv dm own R N fv tv hv ov rs tops os ex)
    (hr:w1.ownsRow w0.heap.size 3 1 tv' (tops.length+1) (ints tops++[.int .i64 ((n:Nat):Int)])) (f:MM.Far tv.ownBlock.toList w w1) (hat:tv'.ownBlock=tv.ownBlock∨∃ b,tv'.ownBlock=some b∧w.heap.size≤b) :
    Sy w0 (w1.setCell ⟨q,8,none⟩ tv') (tv'.ownBlock.toList++Z) Y q g dv lv dm own R N fv tv' hv ov rs (tops++[n]) os ex :=
  ⟨(h.sc.row (h.mc.kin.each _ (List.mem_cons_self ..)) (Nat.le_refl _) (fun b hb=>(h.mc.zk _ (List.mem_cons_self ..) b hb).2) f).setT tv',(h.mc.top h.far.size hr f hat).cell h.sc.yq 8 tv'⟩
theorem Sy.push {ov':Value} (x:Pz) (hl:x.o.f.l=[]) (hlv:x.lv = .slice none 0 0) (h:Sy w0 w Z Y q g dv lv dm own R N fv tv hv ov rs tops os ex) (hp:∃ vs,Sl w Z x.av vs∧Ips w Z q vs x.o.ps)
    (hr:w1.ownsRow w0.heap.size 145 10 ov' (os.length+1) (pzC os.reverse++pzL x)) (f:MM.Far ov.ownBlock.toList w w1) (hat:ov'.ownBlock=ov.ownBlock∨∃ b,ov'.ownBlock=some b∧w.heap.size≤b) :
    Sy w0 (w1.setCell ⟨q,9,none⟩ ov') (ov'.ownBlock.toList++Z) Y q g dv lv dm own R N fv tv ov' ov' rs tops (x::os) ex :=
  ⟨(h.sc.row h.mc.op (Nat.le_refl _) (fun b hb=>(h.mc.zo b hb).2) f).setH ov',(h.mc.push x hl hlv h.far.size hp hr f hat).cell h.sc.yq 9 ov'⟩
theorem Sy.cut (h:Sy w0 w Z Y q g dv lv dm own R N fv tv hv ov rs tops os ex):Sy w0 (w.setCell ⟨q,9,none⟩ ov) Z Y q g dv lv dm own R N fv tv ov ov rs tops os ex:=⟨h.sc.setH ov,h.mc.cell h.sc.yq 9 ov⟩
theorem Sy.drop {x:Pz} {og c:Nat} (h:Sy w0 w Z Y q g dv lv dm own R N fv tv hv (.slice (some ⟨og,0,none⟩) (os.length+1) c) rs tops (x::os) ex):Sy w0 w Z Y q g dv lv dm own R N fv tv hv (.slice (some ⟨og,0,none⟩) os.length c) rs tops os ((x.lv,x.o.f.l)::ex):=⟨h.sc,h.mc.drop⟩
theorem Sy.more {lv':Value} {x:Pz} {n og c:Nat} (h:Sy w0 w Z Y q g dv lv dm own R N fv tv hv ov rs tops (x::os) ex) (hov:ov = .slice (some ⟨og,0,none⟩) (os.length+1) c)
    (hr:w1.ownsRow w0.heap.size 3 1 lv' (x.o.f.l.length+1) (ints x.o.f.l++[.int .i64 ((n:Nat):Int)])) (f:MM.Far x.lv.ownBlock.toList w w1) (hat:lv'.ownBlock=x.lv.ownBlock∨∃ b,lv'.ownBlock=some b∧w.heap.size≤b) :
    Sy w0 (w1.setCell ⟨og,os.length*10+8,none⟩ lv') (lv'.ownBlock.toList++Z) Y q g dv lv dm own R N fv tv hv ov rs tops (⟨x.o.add n,lv',x.av⟩::os) ex:=by
  have hmem:(x.lv,x.o.f.l)∈((tv,tops)::(kinsR rs++(kinsZ (x::os)++ex))):=by simp [kinsZ]
  have s1:=h.sc.row (h.mc.kin.each _ hmem) (Nat.le_refl _) (fun b hb=>(h.mc.zk _ hmem b hb).2) f;have hO:=MM.own_far h.mc.op f (off_ownZ h.mc.op (h.mc.kin.each _ hmem) (by decide));have hog:=h.mc.zo og (by rw [hov];rfl);refine ⟨s1.off (cellF w1 og _ lv') (fun b hb=>?_),h.mc.more h.far.size hov hr f hat⟩
  obtain rfl:b=og:=by simpa using hb
  refine ⟨hog.2,h.mc.low _ hog.1,fun e=>?_⟩
  obtain ⟨es,clock,hmb⟩:=s1.dmlt b e;obtain ⟨cs,hcs⟩:=NW.own_block hO b (by rw [hov];rfl);rw [hmb] at hcs;cases hcs
theorem Sy.eval {Y':List Nat} {R':Rws} {N':List ByteArray} (h:Sy w0 w Z Y q g dv lv dm own R N fv tv hv ov rs tops os ex) (hY:Yto w Y Y') (f:MM.Far Y w w1) (hs:Sc w0 w1 Y' q g ⟨dv,lv,dm,fv,tv,hv⟩ own R' N'):Sy w0 w1 (Y'++Z) Y' q g dv lv dm own R' N' fv tv hv ov rs tops os ex :=
  ⟨hs,h.mc.eval hY f hs.ylt h.far.size⟩
theorem evalZ {Y':List Nat} (h:Mc w0 w Z Y q fv tv ov rs tops os ex) (hY:Yto w Y Y'):Yto w Z (Y'++Z):=⟨fun b hb=>List.mem_append_right _ hb,fun b hb=>(List.mem_append.1 hb).elim (fun hb=>(hY.new b hb).imp (h.sub b) id) .inl⟩
end
end SM
end Go.Proofs.YtkcgbhlnkfogeaaGreatDoor
