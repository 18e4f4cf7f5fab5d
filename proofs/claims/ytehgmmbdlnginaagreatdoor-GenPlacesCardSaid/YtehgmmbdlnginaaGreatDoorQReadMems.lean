/-
  Several texts in one: ReadSame,ReadMem,ReadCMem,ReadC1,ReadC2. Each one's own head tells its conditions.
-/
import Derived.Test.YtehgmmbdlnginaaGreatDoorQLexPure
import Derived.Test.YtehgmmbdlnginaaGreatDoorQLexRefs
import Derived.Test.YtehgmmbdlnginaaGreatDoorQCodePlain
import Derived.Deep.QuietTactic
import Derived.BigQuiet
import Derived.Deep.RegionLaw
import Derived.Deep.RegionHeld3
import Derived.Deep.DeepCutAuto
namespace Go.Proofs.YtehgmmbdlnginaaGreatDoor
open Go.RowKit
namespace RW6
open LX RX
def IntRow (w:World) (A:Option Addr) (l:List Nat):Prop :=
  ∀ (k:Nat) (h:k < l.length),∃ b o,A=some ⟨b,o,none⟩∧b < w.heap.size∧w.cell? ⟨b,o+k,none⟩=some (.int .i64 ((l[k]:Nat):Int))
theorem IntRow.far {w w':World} {A:Option Addr} {l:List Nat} (h:IntRow w A l) (f:MM.Far [] w w'):IntRow w' A l:=by
  intro k hk;obtain ⟨b,o,e,hb,c⟩:=h k hk;exact ⟨b,o,e,Nat.lt_of_lt_of_le hb f.size,(f.cell (p:=⟨b,o+k,none⟩) hb (by simp)).trans c⟩
def ints (l:List Nat):List Value:=l.map (fun n=>.int .i64 ((n:Nat):Int))
theorem IntRow.of_src {w:World} {S:List Nat} {A:Option Addr} {l:List Nat} (h:MM.Src w S A (ints l)):IntRow w A l:=by
  intro k hk;obtain ⟨ad,e,_,hl,hc⟩:=h (by unfold ints;rw [List.length_map];omega);have hu (j:Nat) (hj:j < l.length):(ints l)[j]? = some (.int .i64 ((l[j]:Nat):Int)):=by unfold ints;rw [List.getElem?_map,List.getElem?_eq_getElem hj];rfl
  obtain ⟨b,o,spot⟩:=ad;have h0:=hc 0 _ (hu 0 (by omega));rw [MR.add_zero_] at h0;obtain rfl:spot=none:=MR.spot_none h0;have h1:=hc k _ (hu k hk);rw [MR.mk_add] at h1;exact ⟨b,o,e,hl,h1⟩
def NdRow (w:World) (A:Option Addr) (ns:List Nd):Prop :=
  ∀ (k:Nat) (h:k < ns.length),∃ b o LA c,A=some ⟨b,o,none⟩∧b < w.heap.size∧w.cell? ⟨b,o+k*5,none⟩=some (.int .u8 ns[k].kind)∧w.cell? ⟨b,o+k*5+1,none⟩=some (.int .i64 ns[k].at_) ∧
    w.cell? ⟨b,o+k*5+2,none⟩=some (.int .i64 ns[k].n)∧w.cell? ⟨b,o+k*5+3,none⟩=some (.string ns[k].s)∧w.cell? ⟨b,o+k*5+4,none⟩=some (.slice LA ns[k].l.length c)∧IntRow w LA ns[k].l
theorem NdRow.far {w w':World} {A:Option Addr} {ns:List Nd} (h:NdRow w A ns) (f:MM.Far [] w w'):NdRow w' A ns:=by
  intro k hk;obtain ⟨b,o,LA,c,e,hb,c0,c1,c2,c3,c4,hI⟩:=h k hk;have g (x:Nat):w'.cell? ⟨b,x,none⟩=w.cell? ⟨b,x,none⟩:=f.cell (p:=⟨b,x,none⟩) hb (by simp);exact ⟨b,o,LA,c,e,Nat.lt_of_lt_of_le hb f.size,(g _).trans c0,(g _).trans c1,(g _).trans c2,(g _).trans c3,(g _).trans c4,hI.far f⟩
end RW6
end Go.Proofs.YtehgmmbdlnginaaGreatDoor
namespace Go.Proofs.YtehgmmbdlnginaaGreatDoor
open Go.RowKit
namespace RM6
open LX RX RW6
structure Kin (w:World) (base:Nat) (ks:List (Value × List Nat)):Prop where
  each:∀ k∈ks,w.ownsRow base 3 1 k.1 k.2.length (ints k.2)
  apart:ks.Pairwise (fun a b=>∀ x,a.1.ownBlock=some x→b.1.ownBlock≠some x)
section
variable {w w':World} {base:Nat} {ks ks':List (Value × List Nat)}
theorem Kin.perm (h:Kin w base ks) (p:ks.Perm ks'):Kin w base ks' :=
  ⟨fun k hk=>h.each k (p.mem_iff.2 hk),p.pairwise h.apart (fun hxy b hy hx=>hxy b hx hy)⟩
theorem Kin.far {S:List Nat} (h:Kin w base ks) (f:MM.Far S w w') (hS:∀ k∈ks,∀ b,k.1.ownBlock=some b→b∉S):Kin w' base ks :=
  ⟨fun k hk=>MM.own_far (h.each k hk) f (hS k hk),h.apart⟩
theorem Kin.tail {k:Value × List Nat} (h:Kin w base (k::ks)):Kin w base ks:=⟨fun x hx=>h.each x (List.mem_cons_of_mem _ hx),(List.pairwise_cons.1 h.apart).2⟩
theorem Kin.none_ (h:Kin w base ks):Kin w base ((.slice none 0 0,[])::ks):=by
  refine ⟨fun k hk=>?_,List.pairwise_cons.2 ⟨fun k _ x hx=>by simp [Value.ownBlock] at hx,h.apart⟩⟩
  rcases List.mem_cons.1 hk with rfl | hk
  · exact MO.none_ _ _ _ _
  · exact h.each k hk
theorem ints_snoc (l:List Nat) (n:Nat):ints (l++[n])=ints l++[.int .i64 ((n:Nat):Int)]:=by simp [ints]
theorem ints_len (l:List Nat):(ints l).length=l.length:=by simp [ints]
theorem Kin.grow {v v':Value} {l:List Nat} {n:Nat} (h:Kin w base ((v,l)::ks)) (hv:w'.ownsRow base 3 1 v' (l.length+1) (ints l++[.int .i64 ((n:Nat):Int)])) (f:MM.Far v.ownBlock.toList w w') (hat:v'.ownBlock=v.ownBlock∨∃ b,v'.ownBlock=some b∧w.heap.size≤b) :
    Kin w' base ((v',l++[n])::ks):=by
  have hp:=List.pairwise_cons.1 h.apart;refine ⟨fun k hk=>?_,List.pairwise_cons.2 ⟨fun k hk x hx=>?_,hp.2⟩⟩
  · rcases List.mem_cons.1 hk with rfl | hk
    · rw [List.length_append,ints_snoc];exact hv
    · exact MM.own_far (h.each k (List.mem_cons_of_mem _ hk)) f (fun b hb hm=>hp.1 k hk b (by simpa using hm) hb)
  · rcases hat with e | ⟨b,e,hb⟩
    · exact hp.1 k hk x (e ▸ hx)
    · intro hk2;have:=(MM.own_lt (h.each k (List.mem_cons_of_mem _ hk)) x hk2).1;rw [e] at hx;injection hx with hx;omega
end
def ndC (rs:List (Nd × Value)):List Value:=rs.flatMap fun x=>[.int .u8 x.1.kind,.int .i64 x.1.at_,.int .i64 x.1.n,.string x.1.s,x.2]
def ptC (os:List (Pt × Value)):List Value:=os.flatMap fun x=>[.int .i64 x.1.at_,.bool x.1.q,x.2]
theorem ndC_snoc (rs:List (Nd × Value)) (x:Nd × Value):ndC (rs++[x])=ndC rs++[.int .u8 x.1.kind,.int .i64 x.1.at_,.int .i64 x.1.n,.string x.1.s,x.2]:=by simp [ndC]
theorem ptC_snoc (os:List (Pt × Value)) (x:Pt × Value):ptC (os++[x])=ptC os++[.int .i64 x.1.at_,.bool x.1.q,x.2]:=by simp [ptC]
theorem ptC_len (os:List (Pt × Value)):(ptC os).length=os.length*3:=by
  induction os with
  | nil=>rfl
  | cons x r ih=>simp only [ptC,List.flatMap_cons,List.length_append,List.length_cons] at ih ⊢;rw [ih];simp;omega
def kinsN (rs:List (Nd × Value)):List (Value × List Nat):=rs.map fun x=>(x.2,x.1.l)
def kinsP (os:List (Pt × Value)):List (Value × List Nat):=os.map fun x=>(x.2,x.1.l)
structure Rdr (w0 w:World) (q:Nat) (rv tv ov:Value) (rs:List (Nd × Value)) (tops:List Nat) (os:List (Pt × Value)) (ex:List (Value × List Nat)):Prop where
  far:MM.Far [] w0 w
  qb:w0.heap.size≤q
  head:MM.Row w q 78 [rv,tv,ov]
  row:w.ownsRow w0.heap.size 122 5 rv rs.length (ndC rs)
  op:w.ownsRow w0.heap.size 83 3 ov os.length (ptC os.reverse)
  kin:Kin w w0.heap.size ((tv,tops)::(kinsN rs++(kinsP os++ex)))
section
variable {w0 w w1:World} {q:Nat} {rv tv ov:Value} {rs:List (Nd × Value)} {tops:List Nat} {os:List (Pt × Value)} {ex:List (Value × List Nat)}
theorem Rdr.to (h:Rdr w0 w q rv tv ov rs tops os ex) (f:MM.Far [] w w1):Rdr w0 w1 q rv tv ov rs tops os ex :=
  ⟨h.far.trans f (by simp),h.qb,h.head.far f (by simp),MM.own_far h.row f (by simp),MM.own_far h.op f (by simp),h.kin.far f (by simp)⟩
theorem Rdr.ex_none (h:Rdr w0 w q rv tv ov rs tops os ex):Rdr w0 w q rv tv ov rs tops os ((.slice none 0 0,[])::ex):=by
  refine ⟨h.far,h.qb,h.head,h.row,h.op,h.kin.none_.perm ?_⟩
  refine (List.Perm.swap _ _ _).trans (List.Perm.cons _ ?_)
  rw [← List.append_assoc,← List.append_assoc];exact List.perm_middle.symm
theorem own_off {e e':TypeId} {size size' n n' base base':Nat} {v v':Value} {xs xs':List Value} (h:w.ownsRow base e size v n xs) (h':w.ownsRow base' e' size' v' n' xs') (ht:e≠e'):∀ b,v.ownBlock=some b→b∉v'.ownBlock.toList:=by
  intro b hb hm;exact MM.own_own_ne h h' ht b hb (by simpa using hm)
theorem one_far (w:World) (q i:Nat) (u:Value):MM.Far [q] w (w.setCell ⟨q,i,none⟩ u):=(MM.Far.refl [q] w).setCell (by simp) u
theorem Rdr.node {rv':Value} (x:Nd) (hx:Value) (h:Rdr w0 w q rv tv ov rs tops os ((hx,x.l)::ex))
    (hr:w1.ownsRow w0.heap.size 122 5 rv' (rs.length+1) (ndC rs++[.int .u8 x.kind,.int .i64 x.at_,.int .i64 x.n,.string x.s,hx])) (f:MM.Far rv.ownBlock.toList w w1) :
    Rdr w0 (w1.setCell ⟨q,0,none⟩ rv') q rv' tv ov (rs++[(x,hx)]) tops os ex:=by
  have hlow:=fun b (hb:b∈rv.ownBlock.toList)=>(MM.own_lt h.row b (by simpa using hb)).2
  have hH:MM.Row w1 q 78 [rv,tv,ov]:=h.head.far f (fun hm=>MM.own_row_ne h.row h.head (by decide) (by simpa using hm));have hO:w1.ownsRow w0.heap.size 83 3 ov os.length (ptC os.reverse):=MM.own_far h.op f (own_off h.op h.row (by decide));have hK:Kin w1 w0.heap.size ((tv,tops)::(kinsN rs++(kinsP os++((hx,x.l)::ex)))):=h.kin.far f (fun k hk=>own_off (h.kin.each k hk) h.row (by decide));have g:=one_far w1 q 0 rv';have offq {e:TypeId} {size n:Nat} {v:Value} {xs:List Value} (ho:w1.ownsRow w0.heap.size e size v n xs) (ht:e≠78):∀ b,v.ownBlock=some b→b∉[q]:=by
    intro b hb hm;have:b=q:=by simpa using hm
    subst this;exact MM.own_row_ne ho hH ht hb
  have hqn:∀ b,b∈[q]→b < w0.heap.size→b∈([]:List Nat):=by
    intro b hb hl;have e:b=q:=by simpa using hb
    have:=h.qb;omega
  refine ⟨(h.far.trans f (fun b hb hl=>by have:=hlow b hb;omega)).trans g hqn,h.qb,?_,?_,MM.own_far hO g (offq hO (by decide)),?_⟩
  · exact hH.put 0 rv'
  · rw [List.length_append,ndC_snoc];exact MM.own_far hr g (offq hr (by decide))
  · refine (hK.far g (fun k hk=>offq (hK.each k hk) (by decide))).perm (List.Perm.cons _ ?_)
    rw [show kinsN (rs++[(x,hx)])=kinsN rs++[(hx,x.l)] by simp [kinsN],List.append_assoc];refine List.Perm.append_left _ ?_
    rw [List.singleton_append];exact List.perm_middle
theorem Rdr.top {tv':Value} {n:Nat} (h:Rdr w0 w q rv tv ov rs tops os ex)
    (hr:w1.ownsRow w0.heap.size 3 1 tv' (tops.length+1) (ints tops++[.int .i64 ((n:Nat):Int)])) (f:MM.Far tv.ownBlock.toList w w1) (hat:tv'.ownBlock=tv.ownBlock∨∃ b,tv'.ownBlock=some b∧w.heap.size≤b) :
    Rdr w0 (w1.setCell ⟨q,1,none⟩ tv') q rv tv' ov rs (tops++[n]) os ex:=by
  have ht:=h.kin.each _ (List.mem_cons_self ..);have hlow:=fun b (hb:b∈tv.ownBlock.toList)=>(MM.own_lt ht b (by simpa using hb)).2
  have hH:MM.Row w1 q 78 [rv,tv,ov]:=h.head.far f (fun hm=>MM.own_row_ne ht h.head (by decide) (by simpa using hm));have hR:=MM.own_far h.row f (own_off h.row ht (by decide));have hO:=MM.own_far h.op f (own_off h.op ht (by decide));have hK:=h.kin.grow hr f hat;have g:=one_far w1 q 1 tv';have offq {e:TypeId} {size n:Nat} {v:Value} {xs:List Value} (ho:w1.ownsRow w0.heap.size e size v n xs) (ht:e≠78):∀ b,v.ownBlock=some b→b∉[q]:=by
    intro b hb hm;have:b=q:=by simpa using hm
    subst this;exact MM.own_row_ne ho hH ht hb
  have hqn:∀ b,b∈[q]→b < w0.heap.size→b∈([]:List Nat):=by
    intro b hb hl;have e:b=q:=by simpa using hb
    have:=h.qb;omega
  exact ⟨(h.far.trans f (fun b hb hl=>by have:=hlow b hb;omega)).trans g hqn,h.qb,hH.put 1 tv',MM.own_far hR g (offq hR (by decide)),MM.own_far hO g (offq hO (by decide)),hK.far g (fun k hk=>offq (hK.each k hk) (by decide))⟩
theorem Rdr.push {ov':Value} (p:Pt) (hp:p.l=[]) (h:Rdr w0 w q rv tv ov rs tops os ex)
    (hr:w1.ownsRow w0.heap.size 83 3 ov' (os.length+1) (ptC os.reverse++[.int .i64 p.at_,.bool p.q,.slice none 0 0])) (f:MM.Far ov.ownBlock.toList w w1) :
    Rdr w0 (w1.setCell ⟨q,2,none⟩ ov') q rv tv ov' rs tops ((p,.slice none 0 0)::os) ex:=by
  have hlow:=fun b (hb:b∈ov.ownBlock.toList)=>(MM.own_lt h.op b (by simpa using hb)).2
  have hH:MM.Row w1 q 78 [rv,tv,ov]:=h.head.far f (fun hm=>MM.own_row_ne h.op h.head (by decide) (by simpa using hm));have hR:=MM.own_far h.row f (own_off h.row h.op (by decide));have hK:=h.kin.far f (fun k hk=>own_off (h.kin.each k hk) h.op (by decide));have g:=one_far w1 q 2 ov';have offq {e:TypeId} {size n:Nat} {v:Value} {xs:List Value} (ho:w1.ownsRow w0.heap.size e size v n xs) (ht:e≠78):∀ b,v.ownBlock=some b→b∉[q]:=by
    intro b hb hm;have:b=q:=by simpa using hm
    subst this;exact MM.own_row_ne ho hH ht hb
  have hqn:∀ b,b∈[q]→b < w0.heap.size→b∈([]:List Nat):=by
    intro b hb hl;have e:b=q:=by simpa using hb
    have:=h.qb;omega
  refine ⟨(h.far.trans f (fun b hb hl=>by have:=hlow b hb;omega)).trans g hqn,h.qb,hH.put 2 ov',MM.own_far hR g (offq hR (by decide)),?_,?_⟩
  · rw [List.length_cons,List.reverse_cons,ptC_snoc];exact MM.own_far hr g (offq hr (by decide))
  · have k2:=(hK.far g (fun k hk=>offq (hK.each k hk) (by decide))).none_;refine k2.perm ((List.Perm.swap _ _ _).trans (List.Perm.cons _ ?_))
    have e:kinsP ((p,.slice none 0 0)::os)=(.slice none 0 0,[])::kinsP os:=by unfold kinsP;rw [List.map_cons,hp]
    rw [e,List.cons_append];exact List.perm_middle.symm
theorem Rdr.pop {ov':Value} {p:Pt} {hp:Value} {os':List (Pt × Value)} (h:Rdr w0 w q rv tv ov rs tops ((p,hp)::os') ex)
    (hr:w1.ownsRow w0.heap.size 83 3 ov' os'.length (ptC os'.reverse)) (f:MM.Far [] w w1) :
    Rdr w0 (w1.setCell ⟨q,2,none⟩ ov') q rv tv ov' rs tops os' ((hp,p.l)::ex):=by
  have hH:MM.Row w1 q 78 [rv,tv,ov]:=h.head.far f (by simp);have hR:=MM.own_far h.row f (by simp);have hK:=h.kin.far f (by simp);have g:=one_far w1 q 2 ov';have offq {e:TypeId} {size n:Nat} {v:Value} {xs:List Value} (ho:w1.ownsRow w0.heap.size e size v n xs) (ht:e≠78):∀ b,v.ownBlock=some b→b∉[q]:=by
    intro b hb hm;have:b=q:=by simpa using hm
    subst this;exact MM.own_row_ne ho hH ht hb
  have hqn:∀ b,b∈[q]→b < w0.heap.size→b∈([]:List Nat):=by
    intro b hb hl;have e:b=q:=by simpa using hb
    have:=h.qb;omega
  refine ⟨(h.far.trans f (by simp)).trans g hqn,h.qb,hH.put 2 ov',MM.own_far hR g (offq hR (by decide)),MM.own_far hr g (offq hr (by decide)),?_⟩
  refine (hK.far g (fun k hk=>offq (hK.each k hk) (by decide))).perm (List.Perm.cons _ (List.Perm.append_left _ ?_))
  show ((hp,p.l)::(kinsP os'++ex)).Perm (kinsP os'++(hp,p.l)::ex)
  exact List.perm_middle.symm
theorem Rdr.more {hp':Value} {p:Pt} {hp:Value} {os':List (Pt × Value)} {n og c:Nat} (h:Rdr w0 w q rv tv ov rs tops ((p,hp)::os') ex)
    (hov:ov = .slice (some ⟨og,0,none⟩) (os'.length+1) c)
    (hr:w1.ownsRow w0.heap.size 3 1 hp' (p.l.length+1) (ints p.l++[.int .i64 ((n:Nat):Int)])) (f:MM.Far hp.ownBlock.toList w w1) (hat:hp'.ownBlock=hp.ownBlock∨∃ b,hp'.ownBlock=some b∧w.heap.size≤b) :
    Rdr w0 (w1.setCell ⟨og,os'.length*3+2,none⟩ hp') q rv tv ov rs tops ((⟨p.at_,p.q,p.l++[n]⟩,hp')::os') ex:=by
  have hmem:(hp,p.l)∈((tv,tops)::(kinsN rs++(kinsP ((p,hp)::os')++ex))):=by simp [kinsP]
  have ht:=h.kin.each _ hmem;have hlow:=fun b (hb:b∈hp.ownBlock.toList)=>(MM.own_lt ht b (by simpa using hb)).2
  have hH:MM.Row w1 q 78 [rv,tv,ov]:=h.head.far f (fun hm=>MM.own_row_ne ht h.head (by decide) (by simpa using hm));have hR:=MM.own_far h.row f (own_off h.row ht (by decide));have hO:=MM.own_far h.op f (own_off h.op ht (by decide));have pm:((tv,tops)::(kinsN rs++(kinsP ((p,hp)::os')++ex))).Perm ((hp,p.l)::((tv,tops)::(kinsN rs++(kinsP os'++ex)))):=by
    refine (List.Perm.cons _ ?_).trans (List.Perm.swap _ _ _)
    show (kinsN rs++((hp,p.l)::(kinsP os'++ex))).Perm _
    exact List.perm_middle
  have hK:=(h.kin.perm pm).grow hr f hat;have g:=one_far w1 og (os'.length*3+2) hp';have hog:=MM.own_lt hO og (by rw [hov];rfl);have hOs:=hO;rw [hov] at hOs;have offo {e:TypeId} {size n:Nat} {v:Value} {xs:List Value} (ho:w1.ownsRow w0.heap.size e size v n xs) (ht:e≠83):∀ b,v.ownBlock=some b→b∉[og]:=by
    intro b hb hm;have:b=og:=by simpa using hm
    subst this;exact MM.own_own_ne ho hOs ht b hb rfl
  refine ⟨(h.far.trans f (fun b hb hl=>by have:=hlow b hb;omega)).trans g (fun b hb hl=>by
    have e:b=og:=by simpa using hb
    omega),h.qb,?_,MM.own_far hR g (offo hR (by decide)),?_,?_⟩
  · refine hH.far g (fun hm=>?_)
    have e:q=og:=by simpa using hm
    subst e;exact MM.own_row_ne hOs hH (by decide) rfl
  · have hst:=(hOs.stored (os'.length*3+2) hp').1;rw [hov,List.length_cons];have e:(ptC ((p,hp)::os').reverse).set (os'.length*3+2) hp'=ptC ((⟨p.at_,p.q,p.l++[n]⟩,hp')::os').reverse:=by
      rw [List.reverse_cons,List.reverse_cons,ptC_snoc,ptC_snoc,List.set_append_right _ _ (by rw [ptC_len,List.length_reverse];omega),ptC_len,List.length_reverse];congr 1
      rw [show os'.length*3+2 - os'.length*3=2 by omega];rfl
    rw [← e];exact hst
  · have k2:=hK.far g (fun k hk=>offo (hK.each k hk) (by decide));refine k2.perm ((List.Perm.swap _ _ _).trans (List.Perm.cons _ ?_))
    show ((hp',p.l++[n])::(kinsN rs++(kinsP os'++ex))).Perm (kinsN rs++((hp',p.l++[n])::(kinsP os'++ex)))
    exact List.perm_middle.symm
end
end RM6
end Go.Proofs.YtehgmmbdlnginaaGreatDoor
namespace Go.Proofs.YtehgmmbdlnginaaGreatDoor
open Go.RowKit
namespace RC6
open LX RX RW6
open RM6 (Kin ndC kinsN kinsP ints_snoc ints_len ndC_snoc own_off one_far)
section
variable {w0 w w1:World} {q:Nat} {rv tv ov:Value} {rs:List (Nd × Value)} {tops:List Nat} {os:List (Pt × Value)} {ex:List (Value × List Nat)}
end
end RC6
end Go.Proofs.YtehgmmbdlnginaaGreatDoor
namespace Go.Proofs.YtehgmmbdlnginaaGreatDoor
open Go.RowKit
namespace RC6
open LX RX RW6
open RM6 (Kin ndC kinsN kinsP ints_snoc ints_len ndC_snoc own_off one_far)
section
variable {w0 w:World} {q:Nat} {rv tv ov:Value} {rs:List (Nd × Value)} {tops:List Nat} {os:List (Pt × Value)} {ex:List (Value × List Nat)}
theorem own_front {base:Nat} {e:TypeId} {size g n c:Nat} {xs:List Value} (h:w.ownsRow base e size (.slice (some ⟨g,0,none⟩) n c) n xs) (m:Nat) (hm:m≤n):w.ownsRow base e size (.slice (some ⟨g,0,none⟩) m c) m (xs.take (m*size)):=by
  obtain ⟨hl,h2⟩:=h
  rcases h2 with ⟨hz,_⟩ | ⟨g',cap,cur,hz,hb,hg,hn,hmx,hs,ht⟩
  · cases hz
  · injection hz with h1 h2 h3;injection h1 with h1;injection h1 with h1;subst h1;subst h3;have hle:m*size≤n*size:=Nat.mul_le_mul_right _ hm;refine ⟨by rw [List.length_take,hl];omega,.inr ⟨g,c,cur,rfl,hb,hg,by omega,hmx,hs,?_⟩⟩
    rw [← ht,List.take_take,Nat.min_eq_left hle]
end
end RC6
end Go.Proofs.YtehgmmbdlnginaaGreatDoor
namespace Go.Proofs.YtehgmmbdlnginaaGreatDoor
open Go.RowKit
namespace RX
end RX
namespace RC6
open LX RX RW6
open RM6 (Kin ndC kinsN kinsP ints_snoc ints_len ndC_snoc own_off one_far)
theorem ints_slice:Tryz.prog.underlying 24=some (.slice 3):=by kernel_rfl
theorem int_info:(Tryz.prog.info? 3).map (fun i=>(i.zero,i.size,i.bytes))=some (some (.int .i64 0),1,8):=by kernel_rfl
theorem far_app {W w2:World} {o:Obj} {b:Option Nat} (h:(W.alloc o).drew.grownBy w2 b):MM.Far b.toList W w2 :=
  ((MM.Far.refl b.toList W).alloc o).trans (MM.Far.of_grown (S:=b.toList) (a:=W.alloc o) ⟨h.os,h.tape,h.output,h.size,h.block⟩ (by intro k hk _;simp [hk])) (fun k hk _=>hk)
theorem far_app0 {W w2:World} {o:Obj} {b:Option Nat} (h:(W.alloc o).grownBy w2 b):MM.Far b.toList W w2 :=
  ((MM.Far.refl b.toList W).alloc o).trans (MM.Far.of_grown (S:=b.toList) (a:=W.alloc o) h (by intro k hk _;simp [hk])) (fun k hk _=>hk)
theorem kin_push {ops:Array Oper} {rest:List Oper} {o:Oper} {a:Act} {Q:Exit→Act→World→Prop} {base:Nat} {w:World} {v:Value} {l:List Nat} {n:Nat}
    (hO:w.ownsRow base 3 1 v l.length (ints l)) (hb:base≤w.heap.size) (hl:l.length≤100000) (hgd:o.guard=none) (s x:Operand)
    (ho:o.op = .call { callee:=.builtin .append,args:=#[s,x],argTypes:=#[24,24] })
    (hs:a.eval s=v) (hx:a.eval x = .slice (some ⟨w.heap.size,0,none⟩) 1 1)
    (h:∀ A c w',w'.ownsRow base 3 1 (.slice A (l.length+1) c) (l.length+1) (ints l++[.int .i64 ((n:Nat):Int)])→MM.Far v.ownBlock.toList w w' →
      ((Value.slice A (l.length+1) c).ownBlock=v.ownBlock∨∃ b,(Value.slice A (l.length+1) c).ownBlock=some b∧w.heap.size≤b)→wpList Tryz.prog ops Q rest (a.put o.dst (.slice A (l.length+1) c)) w') :
    wpList Tryz.prog ops Q (o::rest) a (w.alloc (.cells #[.int .i64 ((n:Nat):Int)] 3)):=by
  have hF:MM.Far [] w (w.alloc (.cells #[.int .i64 ((n:Nat):Int)] 3)):=(MM.Far.refl [] w).alloc _;refine MO.wpList_append _ hgd s x 24 ho base 3 (.int .i64 0) 1 8 ints_slice int_info rfl (by omega) v l.length (ints l) hs (hO.alloc _) (some ⟨w.heap.size,0,none⟩) 1 1 [.int .i64 ((n:Nat):Int)] hx rfl (fun h=>by cases h) [] ?_ ?_ ?_ ?_ (by have:=hF.size;omega) ?_
  · exact MM.Src.row (MM.Row.new w 3 [.int .i64 ((n:Nat):Int)]) (by simp) _ (fun j u hu=>hu)
  · intro u hu;rw [List.mem_singleton] at hu;subst hu;rfl
  · simp only [maxLen];omega
  · omega
  · intro v' w' hv hg hat;obtain ⟨A,c,rfl,_⟩:=MO.form hv;refine h A c w' hv (far_app0 hg) ?_
    rcases hat with e | e
    · exact .inl e
    · exact .inr ⟨_,e,by have:=hF.size;omega⟩
structure Keep (v:Value) (w w':World):Prop where
  size:w.heap.size≤w'.heap.size
  node:∀ b l,MM.Row w b 122 l→v.ownBlock≠some b→MM.Row w' b 122 l
  tok:∀ b l,MM.Row w b 81 l→MM.Row w' b 81 l
theorem Keep.refl (v:Value) (w:World):Keep v w w:=⟨Nat.le_refl _,fun _ _ h _=>h,fun _ _ h=>h⟩
theorem Keep.trans {v:Value} {w w1 w2:World} (h:Keep v w w1) (k:Keep v w1 w2):Keep v w w2 :=
  ⟨Nat.le_trans h.size k.size,fun b l r n=>k.node b l (h.node b l r n) n,fun b l r=>k.tok b l (h.tok b l r)⟩
theorem Keep.far {v:Value} {S:List Nat} {w w':World} (f:MM.Far S w w') (hS:∀ b∈S,b < w.heap.size→v.ownBlock=some b∨∃ t l,MM.Row w b t l∧t≠122∧t≠81) (hv:∀ b,v.ownBlock=some b→∃ l,MM.Row w b 122 l):Keep v w w':=by
  refine ⟨f.size,fun b l r n=>r.far f (fun hm=>?_),fun b l r=>r.far f (fun hm=>?_)⟩
  · rcases hS b hm r.lt with e | ⟨t,l2,r2,h1,_⟩
    · exact n e
    · exact r2.ne r h1 rfl
  · rcases hS b hm r.lt with e | ⟨t,l2,r2,_,h1⟩
    · obtain ⟨l2,r2⟩:=hv b e;exact r2.ne r (by decide) rfl
    · exact r2.ne r h1 rfl
section
variable {w0 w:World} {q:Nat} {rv tv ov:Value} {rs:List (Nd × Value)} {tops:List Nat} {os:List (Pt × Value)} {ex:List (Value × List Nat)}
end
end RC6
end Go.Proofs.YtehgmmbdlnginaaGreatDoor
