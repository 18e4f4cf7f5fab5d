/-
  Several texts in one: GenKid,GenC5.
-/
import Derived.Test.YtehgmmbdlnginaaGreatDoorQGenC4
namespace Go.Proofs.YtehgmmbdlnginaaGreatDoor
open Go.RowKit
set_option linter.unusedVariables false
namespace GW
open LX SX RW6 EX KP SC GP
open EW (Sl Bx)
theorem blk_at {bs:List Kb} {b:Nat} (h:b < bs.length):bs[b]? = some (blk bs b):=by
  rw [List.getElem?_eq_getElem h];unfold blk;rw [List.getD_eq_getElem?_getD,List.getElem?_eq_getElem h];rfl
section
variable {base:Nat} {w w2:World} {q:Nat} {fv bv:Value} {ks:List Value} {ad:List Nat} {s:Gs}
structure Part (base:Nat) (w:World) (q:Nat) (fv bv:Value) (ks:List Value) (ad:List Nat) (s:Gs):Prop where
  head:MM.Row w q 99 [fv,bv]
  kid:∀ (i:Nat) (k:Value) (b:Kb),ks[i]? = some k→s.bs[i]? = some b→w.ownsRow base 44 4 k b.l.length (iC b.l)
  apart:∀ (i j:Nat) (k k':Value) (g:Nat),ks[i]? = some k→ks[j]? = some k'→k.ownBlock=some g→k'.ownBlock=some g→i=j
  box:∀ (i a n:Nat),ad[i]? = some a→s.bx[i]? = some n→MM.Row w a 3 [num n]
theorem Mg.kid0 (h:Mg base w q fv bv ks ad s) {b:Nat} (hb:b < s.bs.length) {kv kv':Value} (hk:ks[b]? = some kv) {l':List Ki} (ho:w2.ownsRow base 44 4 kv' l'.length (iC l')) (f:MM.Far kv.ownBlock.toList w w2) (hat:kv'.ownBlock=kv.ownBlock∨∃ g,kv'.ownBlock=some g∧w.heap.size≤g) :
    Part base w2 q fv bv (ks.set b kv') ad ⟨s.bs.set b ⟨(blk s.bs b).many,l'⟩,s.bx⟩∧w2.ownsRow base 42 2 bv s.bs.length (bC s.bs ks)∧∀ g∈Zof q bv (ks.set b kv') ad,g∈Zof q bv ks ad∨w.heap.size≤g:=by
  have hkb:b < ks.length:=(List.getElem?_eq_some_iff.1 hk).1;have hO:=h.kid b kv _ hk (blk_at hb);have hS:∀ g∈kv.ownBlock.toList,kv.ownBlock=some g:=fun g hg=>by simpa using hg
  have hset:∀ (i:Nat) (k:Value),(ks.set b kv')[i]? = some k→(i=b∧k=kv')∨(i≠b∧ks[i]? = some k):=by
    intro i k hi;by_cases e:b=i
    · subst e;rw [List.getElem?_set_self hkb] at hi;injection hi with hi;exact .inl ⟨rfl,hi.symm⟩
    · rw [List.getElem?_set_ne e] at hi;exact .inr ⟨fun c=>e c.symm,hi⟩
  have hfree:∀ (i:Nat) (k:Value) (g:Nat),i≠b→ks[i]? = some k→k.ownBlock=some g→kv'.ownBlock≠some g:=by
    intro i k g hi hki hg hc
    rcases hat with e | ⟨g',e,hg'⟩
    · exact hi (h.apart i b k kv g hki hk hg (e ▸ hc))
    · rw [e] at hc;injection hc with hc;subst hc;have hil:i < s.bs.length:=by rw [← h.klen];exact (List.getElem?_eq_some_iff.1 hki).1
      have:=(MM.own_lt (h.kid i k _ hki (blk_at hil)) g' hg).1;omega
  refine ⟨⟨h.head.far f (fun hm=>MM.own_row_ne hO h.head (by decide) (hS _ hm)),fun i k b' hk' hb'=>?_,fun i j k k' g hi hj hg hg'=>?_,fun i a n ha hn=>?_⟩,MM.own_far h.main f (fun g hg hm=>MM.own_own_ne hO h.main (by decide) g (hS _ hm) hg),fun g hg=>?_⟩
  · rcases hset i k hk' with ⟨rfl,rfl⟩ | ⟨hne,hki⟩
    · simp only at hb'
      rw [List.getElem?_set_self hb] at hb';injection hb' with hb';subst hb';exact ho
    · simp only at hb'
      rw [List.getElem?_set_ne (fun e=>hne e.symm)] at hb';exact MM.own_far (h.kid i k b' hki hb') f (fun g hg hm=>hne (h.apart i b k kv g hki hk hg (hS _ hm)))
  · rcases hset i k hi with ⟨rfl,rfl⟩ | ⟨hne,hki⟩
    · rcases hset j k' hj with ⟨rfl,rfl⟩ | ⟨hne2,hkj⟩
      · rfl
      · exact absurd hg (hfree j k' g hne2 hkj hg')
    · rcases hset j k' hj with ⟨rfl,rfl⟩ | ⟨hne2,hkj⟩
      · exact absurd hg' (hfree i k g hne hki hg)
      · exact h.apart i j k k' g hki hkj hg hg'
  · have hr:=h.box i a n ha hn;exact hr.far f (fun hm=>MM.own_row_ne hO hr (by decide) (hS _ hm))
  · rcases mem_Z.1 hg with e | e | ⟨k,hk',e⟩ | e
    · exact .inl (mem_Z.2 (.inl e))
    · exact .inl (mem_Z.2 (.inr (.inl e)))
    · obtain ⟨i,hi⟩:=List.getElem?_of_mem hk'
      rcases hset i k hi with ⟨rfl,rfl⟩ | ⟨hne,hki⟩
      · rcases hat with e2 | ⟨g',e2,hg'⟩
        · exact .inl (mem_Z.2 (.inr (.inr (.inl ⟨kv,List.mem_of_getElem? hk,e2 ▸ e⟩))))
        · rw [e2] at e;injection e with e;subst e;exact .inr hg'
      · exact .inl (mem_Z.2 (.inr (.inr (.inl ⟨k,List.mem_of_getElem? hki,e⟩))))
    · exact .inl (mem_Z.2 (.inr (.inr (.inr e))))
theorem kid_Z {b:Nat} {kv:Value} (hk:ks[b]? = some kv):∀ g∈kv.ownBlock.toList,g∈Zof q bv ks ad:=fun g hg=>mem_Z.2 (.inr (.inr (.inl ⟨kv,List.mem_of_getElem? hk,by simpa using hg⟩)))
theorem Mg.put (h:Mg base w q fv bv ks ad s) {b:Nat} (hb:b < s.bs.length) {kv kv':Value} (hk:ks[b]? = some kv) (x:Ki) (ho:w2.ownsRow base 44 4 kv' (lenB s.bs b+1) (iC (blk s.bs b).l++KW.cel x)) (f:MM.Far kv.ownBlock.toList w w2) (hat:kv'.ownBlock=kv.ownBlock∨∃ g,kv'.ownBlock=some g∧w.heap.size≤g)
    {G C:Nat} (hbv:bv = .slice (some ⟨G,0,none⟩) s.bs.length C):Mg base (w2.setCell ⟨G,b*2+1,none⟩ kv') q fv bv (ks.set b kv') ad ⟨app s.bs b [x],s.bx⟩∧MM.Far (Zof q bv ks ad) w (w2.setCell ⟨G,b*2+1,none⟩ kv')∧∀ g∈Zof q bv (ks.set b kv') ad,g∈Zof q bv ks ad∨w.heap.size≤g:=by
  have ho2:w2.ownsRow base 44 4 kv' ((blk s.bs b).l++[x]).length (iC ((blk s.bs b).l++[x])):=by
    rw [iC_app,iC_one,List.length_append,List.length_singleton];exact ho
  obtain ⟨P,hm,hz⟩:=h.kid0 hb hk ho2 f hat;have hgo:bv.ownBlock=some G:=by rw [hbv];rfl
  have g:MM.Far [G] w2 (w2.setCell ⟨G,b*2+1,none⟩ kv'):=(MM.Far.refl [G] w2).setCell (by simp) kv';have hG:∀ b'∈[G],b' < w2.heap.size→bv.ownBlock=some b':=fun b' hb' _=>by rw [List.mem_singleton] at hb';subst hb';exact hgo
  refine ⟨⟨P.head.far g (fun hm2=>MM.own_row_ne hm P.head (by decide) (hG _ hm2 P.head.lt)),h.qb,?_,by rw [List.length_set,app_len];exact h.klen,fun i k b' hk' hb'=>?_,P.apart,h.alen,fun i a n ha hn=>?_,h.anod,fun a ha=>⟨(h.abase a ha).1,Nat.lt_of_lt_of_le (h.abase a ha).2 (Nat.le_trans f.size g.size)⟩⟩,(f.mono (fun b' hb' _=>kid_Z hk b' hb')).trans g (fun b' hb' _=>mem_Z.2 (.inr (.inl (hG b' hb' (by rw [List.mem_singleton] at hb';subst hb';exact (MM.own_lt hm _ hgo).1)))) ),hz⟩
  · show (w2.setCell ⟨G,b*2+1,none⟩ kv').ownsRow base 42 2 bv (app s.bs b [x]).length (bC (app s.bs b [x]) (ks.set b kv'))
    rw [app_len];unfold app;rw [bC_set s.bs ks h.klen b ((blk s.bs b).l++[x]) kv' (blk s.bs b) (blk_at hb)];subst hbv;exact (hm.stored (b*2+1) kv').1
  · exact MM.own_far (P.kid i k b' hk' hb') g (fun g' hg' hm2=>MM.own_own_ne hm (P.kid i k b' hk' hb') (by decide) g' (by rw [List.mem_singleton] at hm2;subst hm2;exact hgo) hg')
  · have hr:=P.box i a n ha hn;exact hr.far g (fun hm2=>MM.own_row_ne hm hr (by decide) (hG _ hm2 hr.lt))
theorem Mg.land (h:Mg base w q fv bv ks ad s) {b k:Nat} (hb:b < s.bs.length) (hkl:k < lenB s.bs b) {g c n:Nat} (hk:ks[b]? = some (.slice (some ⟨g,0,none⟩) n c)) :
    Mg base (w.setCell ⟨g,k*4+1,none⟩ (num (lenB s.bs b))) q fv bv ks ad ⟨landB s.bs b k,s.bx⟩∧MM.Far (Zof q bv ks ad) w (w.setCell ⟨g,k*4+1,none⟩ (num (lenB s.bs b))):=by
  have hO0:=h.kid b _ _ hk (blk_at hb);have hn:n=lenB s.bs b:=by
    obtain ⟨A6,c6,e,_⟩:=MO.form hO0;injection e with _ e _
  subst hn;have hO:w.ownsRow base 44 4 (.slice (some ⟨g,0,none⟩) (lenB s.bs b) c) (lenB s.bs b) (iC (blk s.bs b).l):=hO0;have g0:MM.Far [g] w (w.setCell ⟨g,k*4+1,none⟩ (num (lenB s.bs b))):=(MM.Far.refl [g] w).setCell (by simp) _;have hst:=(hO.stored (k*4+1) (num (lenB s.bs b))).1;have hset:(iC (blk s.bs b).l).set (k*4+1) (num (lenB s.bs b))=iC ((blk s.bs b).l.set k { (blk s.bs b).l.getD k k0 with a:=((blk s.bs b).l.length:Nat) }):=by
    have:∀ (l:List Ki) (k:Nat),k < l.length→∀ z:Int,(iC l).set (k*4+1) (num z)=iC (l.set k { l.getD k k0 with a:=z }):=by
      intro l;induction l with
      | nil=>intro k hk;simp at hk
      | cons x l ih =>
        intro k hk z;have e:iC (x::l)=KW.cel x++iC l:=rfl;cases k with
        | zero=>rw [e];rfl
        | succ k =>
          have hl:(KW.cel x).length=4:=rfl;rw [e,show (k+1)*4+1=4+(k*4+1) by omega,List.set_append_right _ _ (by omega),hl,Nat.add_sub_cancel_left,ih k (by simpa using hk) z];rfl
    exact this _ k hkl _
  rw [hset] at hst;have hlen:((blk s.bs b).l.set k { (blk s.bs b).l.getD k k0 with a:=((blk s.bs b).l.length:Nat) }).length=(blk s.bs b).l.length:=List.length_set ..;have hst2:(w.setCell ⟨g,k*4+1,none⟩ (num (lenB s.bs b))).ownsRow base 44 4 (.slice (some ⟨g,0,none⟩) (lenB s.bs b) c) ((blk s.bs b).l.set k { (blk s.bs b).l.getD k k0 with a:=((blk s.bs b).l.length:Nat) }).length (iC ((blk s.bs b).l.set k { (blk s.bs b).l.getD k k0 with a:=((blk s.bs b).l.length:Nat) })):=by
    rw [hlen];exact hst
  obtain ⟨P,hm,hz⟩:=h.kid0 (kv':=.slice (some ⟨g,0,none⟩) (lenB s.bs b) c) hb hk hst2 g0 (.inl rfl);have hks:ks.set b (.slice (some ⟨g,0,none⟩) (lenB s.bs b) c)=ks:=by
    obtain ⟨h1,h2⟩:=List.getElem?_eq_some_iff.1 hk;rw [← h2,List.set_getElem_self]
  rw [hks] at P;refine ⟨⟨P.head,h.qb,?_,by rw [land_len];exact h.klen,P.kid,P.apart,h.alen,P.box,h.anod,fun a ha=>⟨(h.abase a ha).1,Nat.lt_of_lt_of_le (h.abase a ha).2 g0.size⟩⟩,g0.mono (fun b' hb' _=>kid_Z hk b' (by rw [List.mem_singleton] at hb';subst hb';simp [Value.ownBlock]))⟩
  show (w.setCell ⟨g,k*4+1,none⟩ (num (lenB s.bs b))).ownsRow base 42 2 bv (landB s.bs b k).length (bC (landB s.bs b k) ks)
  rw [land_len];have:bC (landB s.bs b k) ks=bC s.bs ks:=by
    unfold landB;have:=bC_set s.bs ks h.klen b ((blk s.bs b).l.set k { (blk s.bs b).l.getD k k0 with a:=((blk s.bs b).l.length:Nat) }) (.slice (some ⟨g,0,none⟩) (lenB s.bs b) c) (blk s.bs b) (blk_at hb);rw [hks] at this;rw [this];have h2:=(bC_at s.bs ks h.klen b _ _ (blk_at hb) hk).2;obtain ⟨h3,h4⟩:=List.getElem?_eq_some_iff.1 h2;rw [← h4,List.set_getElem_self]
  rw [this];exact hm
theorem Mg.noted (h:Mg base w q fv bv ks ad s) {k a n:Nat} (ha:ad[k]? = some a):Mg base (w.setCell ⟨a,0,none⟩ (num n)) q fv bv ks ad ⟨s.bs,s.bx.set k n⟩∧MM.Far (Zof q bv ks ad) w (w.setCell ⟨a,0,none⟩ (num n)):=by
  have hka:k < ad.length:=(List.getElem?_eq_some_iff.1 ha).1;have hkl:k < s.bx.length:=by rw [← h.alen];exact hka
  have hr0:=h.box k a _ ha (List.getElem?_eq_getElem hkl);have g0:MM.Far [a] w (w.setCell ⟨a,0,none⟩ (num n)):=(MM.Far.refl [a] w).setCell (by simp) _;have hz:a∈Zof q bv ks ad:=mem_Z.2 (.inr (.inr (.inr (List.mem_of_getElem? ha))));refine ⟨⟨h.head.far g0 (fun hm=>?_),h.qb,MM.own_far h.main g0 (fun g hg hm=>?_),h.klen,fun i k' b hk' hb=>MM.own_far (h.kid i k' b hk' hb) g0 (fun g hg hm=>?_),h.apart,by rw [List.length_set];exact h.alen,fun i a' n' h1 h2=>?_,h.anod,fun b hb=>⟨(h.abase b hb).1,Nat.lt_of_lt_of_le (h.abase b hb).2 g0.size⟩⟩,g0.mono (fun b hb _=>by rw [List.mem_singleton] at hb;subst hb;exact hz)⟩
  · rw [List.mem_singleton] at hm;exact MM.Row.ne h.head hr0 (by decide) hm
  · rw [List.mem_singleton] at hm;subst hm;exact MM.own_row_ne h.main hr0 (by decide) hg
  · rw [List.mem_singleton] at hm;subst hm;exact MM.own_row_ne (h.kid i k' b hk' hb) hr0 (by decide) hg
  · by_cases e:k=i
    · subst e;rw [ha] at h1;injection h1 with h1;subst h1;rw [List.getElem?_set_self hkl] at h2;injection h2 with h2;subst h2;exact hr0.put 0 (num n)
    · rw [List.getElem?_set_ne e] at h2;refine (h.box i a' n' h1 h2).far g0 (fun hm=>?_)
      rw [List.mem_singleton] at hm;subst hm;have h3:=List.getElem?_eq_some_iff.1 ha;have h4:=List.getElem?_eq_some_iff.1 h1;obtain ⟨h5,h6⟩:=h3;obtain ⟨h7,h8⟩:=h4;exact e ((List.getElem_inj h.anod).1 (h6.trans h8.symm))
theorem Mg.block (h:Mg base w q fv bv ks ad s) (m:Int) {bv':Value} (ho:w2.ownsRow base 42 2 bv' (s.bs.length+1) (bC s.bs ks++[num m,.slice none 0 0])) (f:MM.Far bv.ownBlock.toList w w2) (hat:bv'.ownBlock=bv.ownBlock∨∃ g,bv'.ownBlock=some g∧w.heap.size≤g) :
    Mg base (w2.setCell ⟨q,1,none⟩ bv') q fv bv' (ks++[.slice none 0 0]) ad ⟨s.bs++[⟨m,[]⟩],s.bx⟩∧MM.Far (Zof q bv ks ad) w (w2.setCell ⟨q,1,none⟩ bv')∧∀ g∈Zof q bv' (ks++[.slice none 0 0]) ad,g∈Zof q bv ks ad∨w.heap.size≤g:=by
  have hS:∀ g∈bv.ownBlock.toList,bv.ownBlock=some g:=fun g hg=>by simpa using hg
  have hh:=h.head.far f (fun hm=>MM.own_row_ne h.main h.head (by decide) (hS _ hm));have g0:MM.Far [q] w2 (w2.setCell ⟨q,1,none⟩ bv'):=(MM.Far.refl [q] w2).setCell (by simp) _;have hkl:=h.klen;refine ⟨⟨hh.put 1 bv',h.qb,?_,by simp [hkl],fun i k b hk hb=>?_,fun i j k k' g hi hj hg hg'=>?_,h.alen,fun i a n ha hn=>?_,h.anod,fun a ha=>⟨(h.abase a ha).1,Nat.lt_of_lt_of_le (h.abase a ha).2 (Nat.le_trans f.size g0.size)⟩⟩,(f.mono (fun g hg _=>mem_Z.2 (.inr (.inl (hS g hg))))).trans g0 (fun g hg _=>by rw [List.mem_singleton] at hg;subst hg;exact mem_Z.2 (.inl rfl)),fun g hg=>?_⟩
  · show (w2.setCell ⟨q,1,none⟩ bv').ownsRow base 42 2 bv' (s.bs++[(⟨m,[]⟩:Kb)]).length (bC (s.bs++[(⟨m,[]⟩:Kb)]) (ks++[.slice none 0 0]))
    rw [bC_app s.bs ks hkl,List.length_append,List.length_singleton];refine MM.own_far ho g0 (fun g hg hm=>?_)
    rw [List.mem_singleton] at hm;subst hm;exact MM.own_row_ne ho hh (by decide) hg
  · by_cases hi:i < ks.length
    · rw [List.getElem?_append_left hi] at hk;simp only at hb
      rw [List.getElem?_append_left (by omega)] at hb;have h0:=h.kid i k b hk hb;have h1:=MM.own_far h0 f (fun g hg hm=>MM.own_own_ne h.main h0 (by decide) g (hS _ hm) hg);refine MM.own_far h1 g0 (fun g hg hm=>?_)
      rw [List.mem_singleton] at hm;subst hm;exact MM.own_row_ne h1 hh (by decide) hg
    · have hi2:i=ks.length:=by have:=(List.getElem?_eq_some_iff.1 hk).1;simp at this;omega
      subst hi2;rw [List.getElem?_append_right (Nat.le_refl _)] at hk;simp only at hb
      rw [hkl,List.getElem?_append_right (Nat.le_refl _)] at hb;simp at hk hb
      subst hk;subst hb;exact MO.none_ _ _ _ _
  · have cas:∀ (i:Nat) (k:Value) (g:Nat),(ks++[.slice none 0 0])[i]? = some k→k.ownBlock=some g→ks[i]? = some k:=by
      intro i k g hi hg;by_cases hl:i < ks.length
      · rw [List.getElem?_append_left hl] at hi;exact hi
      · have hi2:i=ks.length:=by have:=(List.getElem?_eq_some_iff.1 hi).1;simp at this;omega
        subst hi2;rw [List.getElem?_append_right (Nat.le_refl _)] at hi;simp at hi
        subst hi;simp [Value.ownBlock] at hg
    exact h.apart i j k k' g (cas i k g hi hg) (cas j k' g hj hg') hg hg'
  · have hr:=h.box i a n ha hn;have h1:=hr.far f (fun hm=>MM.own_row_ne h.main hr (by decide) (hS _ hm));refine h1.far g0 (fun hm=>?_)
    rw [List.mem_singleton] at hm;exact MM.Row.ne h1 hh (by decide) hm
  · rcases mem_Z.1 hg with e | e | ⟨k,hk',e⟩ | e
    · exact .inl (mem_Z.2 (.inl e))
    · rcases hat with e2 | ⟨g',e2,hg'⟩
      · exact .inl (mem_Z.2 (.inr (.inl (e2 ▸ e))))
      · rw [e2] at e;injection e with e;subst e;exact .inr hg'
    · rcases List.mem_append.1 hk' with hk' | hk'
      · exact .inl (mem_Z.2 (.inr (.inr (.inl ⟨k,hk',e⟩))))
      · rw [List.mem_singleton] at hk';subst hk';simp [Value.ownBlock] at e
    · exact .inl (mem_Z.2 (.inr (.inr (.inr e))))
end
end GW
end Go.Proofs.YtehgmmbdlnginaaGreatDoor
namespace Go.Proofs.YtehgmmbdlnginaaGreatDoor
open Go.RowKit
set_option linter.unusedVariables false
namespace GW
open LX SX RW6 EX KP SC GP
open EW (Sl Bx)
theorem inss_slice:Tryz.prog.underlying 40=some (.slice 44):=by kernel_rfl
theorem ins_info:(Tryz.prog.info? 44).map (fun i=>(i.zero,i.size,i.bytes))=some (some (.agg #[.int .u8 0,.int .i64 0,.int .i64 0,.int .u64 0]),4,32):=by kernel_rfl
theorem blocks_slice:Tryz.prog.underlying 28=some (.slice 42):=by kernel_rfl
theorem block_info:(Tryz.prog.info? 42).map (fun i=>(i.zero,i.size,i.bytes))=some (some (.agg #[.int .i64 0,.slice none 0 0]),2,32):=by kernel_rfl
theorem far_app {w w2:World} {o:Obj} {b:Option Nat} (h:(w.alloc o).drew.grownBy w2 b):MM.Far b.toList w w2 :=
  ((MM.Far.refl b.toList w).alloc o).trans (MM.Far.of_grown (S:=b.toList) (a:=w.alloc o) ⟨h.os,h.tape,h.output,h.size,h.block⟩ (by intro k hk _;simp [hk])) (fun k hk _=>hk)
theorem own_cell {w:World} {base size n m:Nat} {t:TypeId} {g c j:Nat} {xs:List Value} {u:Value} (h:w.ownsRow base t size (.slice (some ⟨g,0,none⟩) m c) n xs) (hu:xs[j]? = some u):w.cell? ⟨g,j,none⟩=some u:=by
  have:=h.cells (g:=g) (by simp [Value.ownBlock]) j u hu
  rwa [MM.head_add] at this
theorem own_frozen {w:World} {base size n m:Nat} {t:TypeId} {g c:Nat} {xs:List Value} (h:w.ownsRow base t size (.slice (some ⟨g,0,none⟩) m c) n xs) (j:Nat):w.frozen? ⟨g,j,none⟩=false:=by
  rcases h.2 with ⟨e,_⟩ | ⟨g',cap,cur,e,_,hg,_⟩
  · cases e
  · injection e with e _ _;injection e with e;injection e with e;subst e;simp [World.frozen?,hg]
theorem ins_one (x:Ki):∀ u∈KW.cel x,u.oneCell'=true:=by
  intro u hu;simp only [KW.cel,List.mem_cons,List.not_mem_nil,or_false] at hu
  rcases hu with rfl | rfl | rfl | rfl <;> rfl
section
variable {base:Nat} {w:World} {q:Nat} {fv bv:Value} {ks:List Value} {ad:List Nat} {s:Gs}
theorem Mg.main_form (h:Mg base w q fv bv ks ad s) (hn:0 < s.bs.length):∃ G C,bv = .slice (some ⟨G,0,none⟩) s.bs.length C∧s.bs.length≤C∧C≤maxLen∧base≤G∧G < w.heap.size:=by
  obtain ⟨A,C,e,_,h1,h2,_,hh⟩:=MO.form h.main
  rcases hh with ⟨_,hz,_⟩ | ⟨g,rfl,h3,h4⟩
  · omega
  · exact ⟨g,C,e,h1,h2,h3,h4⟩
theorem callQ_nil {w':World} {bv':Value} {ks':List Value} {s2:Gs} (hM:Mg base w' q fv bv' ks' ad s2) (hF:MM.Far (Zof q bv ks ad) w w') (hz:∀ b∈Zof q bv' ks' ad,b∈Zof q bv ks ad∨w.heap.size≤b):CallQ base w q fv bv ks ad ([],s2) (.returned (.slice none 0 0)) w' :=
  ⟨bv',ks',[],.slice none 0 0,[],rfl,by rw [List.append_nil];exact hM,MO.none_ _ _ _ _,Iss.nil _ _ _ _,hF,by rw [List.append_nil];exact hz⟩
theorem callQ_row {W W1:World} {s2:Gs} {vs:List Value} {xs:List Stp} {n:Nat} (hM:Mg base W q fv bv ks ad s2) (hF:MM.Far (Zof q bv ks ad) w W) (hF1:MM.Far [] W W1) (hI:Iss W1 (Zof q bv ks ad) q ad vs xs) (hn:vs.length=n) (hm:n≤1000000) :
    CallQ base w q fv bv ks ad (xs,s2) (.returned (.slice (some ⟨W1.heap.size,0,none⟩) n n)) (W1.alloc (.cells vs.toArray 141)):=by
  have FN:=(MM.Far.refl [] W1).alloc (.cells vs.toArray 141);have hsz:=hF.size;have hsz1:=hF1.size;refine ⟨bv,ks,[],_,vs,rfl,by rw [List.append_nil];exact (hM.far hF1 (by simp)).far FN (by simp),?_,by rw [List.append_nil];exact hI.far FN (by simp),(hF.trans hF1 (by simp)).trans FN (by simp),by rw [List.append_nil];exact fun b hb=>.inl hb⟩
  rw [hn];exact own_new (by omega) hn (by simp only [maxLen];omega)
set_option maxHeartbeats 4000000 in
set_option maxRecDepth 20000 in
theorem put_call {row:List Rf} (hM:Mg base w q fv bv ks ad s) (hbase:base≤w.heap.size) {b:Nat} {x:Ki} {v:Value} (hI:IsS w (Zof q bv ks ad) q ad v (.put b x)) (hb:b < s.bs.length) (hn:s.bs.length≤100000000000) (hlen:lenB s.bs b≤1000000000000) :
    ∃ f cs,v = .func (.func f) #[] cs∧(∀ W,(callFunc f cs).run Tryz.prog W = .ok (.enter f cs) W)∧Calls Tryz.prog f cs w (CallQ base w q fv bv ks ad (stp row (.put b x) s)):=by
  obtain ⟨bg,bb,bx,rfl,h1,h2,h3,h4⟩:=hI;refine ⟨_,_,rfl,fun W=>by kernel_rfl,?_⟩
  show Calls _ _ _ _ (CallQ base w q fv bv ks ad ([],⟨app s.bs b [x],s.bx⟩))
  obtain ⟨G,C,rfl,hC1,hC2,hG1,hG2⟩:=hM.main_form (by omega);obtain ⟨n,hn2⟩:∃ n,s.bs.length=n:=⟨_,rfl⟩
  obtain ⟨kv,hk⟩:∃ kv,ks[b]? = some kv:=⟨_,List.getElem?_eq_getElem (by rw [hM.klen];exact hb)⟩
  have hO:=hM.kid b kv _ hk (blk_at hb);obtain ⟨A,c,rfl,-,hc1,hc2,-,-⟩:=MO.form hO;obtain ⟨m,hm⟩:∃ m,(blk s.bs b).l.length=m:=⟨_,rfl⟩
  have hlen2:m≤1000000000000:=by rw [← hm];exact hlen
  rw [hm] at hO hk hc1;have hck:=own_cell hM.main ((bC_at s.bs ks hM.klen b _ _ (blk_at hb) hk).2);have hcf:=own_frozen hM.main (b*2+1);have c1:=h1.at;have c2:=hM.head.at (i:=1) rfl;have c3:=h2.at;have x0:=h3.at (i:=0) rfl;have x1:=h3.at (i:=1) rfl;have x2:=h3.at (i:=2) rfl;have x3:=h3.at (i:=3) rfl;have hbx:=h3.lt;have i0:(0:Int)≤(b:Int):=by omega
  have i1:(b:Int) < (n:Int):=by omega
  have HM:=Lib.hid hM;have HO:=Lib.hid hO;have HK:=Lib.hid hk;have HB:=Lib.hid hb;have HL:Hid (lenB s.bs b=m):=Lib.hid hm;have HN2:=Lib.hid hn2;rw [hn2] at c2 hC1 hn;unfold maxLen at hC2 hc2;clear hM hO hk h1 h2 h3 h4 hm hn2 hb hlen;go_enter Tryz.func134,Tryz.ntmps134
  go_wp2;go_quiet (fail)
  go_wp2;have FW:MM.Far [] w (w.drewN nq):=(MM.Far.refl [] w).drewN nq;generalize w.drewN nq=W at *;replace hck:=far_cell FW hck hG2;replace hcf:=(FW.frozen (p:=⟨G,b*2+1,none⟩) hG2 (by simp)).trans hcf;replace x0:=far_cell FW x0 hbx;replace x1:=far_cell FW x1 hbx;replace x2:=far_cell FW x2 hbx;replace x3:=far_cell FW x3 hbx;have FA:=(MM.Far.refl [] W).alloc (.cells (KW.cel x).toArray 44);have hGW:=Nat.lt_of_lt_of_le hG2 FW.size;have hcka:=far_cell FA hck hGW;have HMW:=Lib.hid (HM.out.far FW (by simp));have HOW:=Lib.hid (MM.own_far HO.out FW (by simp));have HFW:=Lib.hid FW;have hbW:=Nat.le_trans hbase FW.size;unfold KW.cel at hcka;clear FA FW c1 c2 c3 i0 i1 HM HO hbx
  go_region_law (
    refine MO.step_append ?_ (.tmp 15) (.tmp 17) 40 ?_ base 44 _ 4 32 inss_slice ins_info rfl (by omega) (.slice A m c) m (iC (blk s.bs b).l) ?_ ?_ (some ⟨W.heap.size,0,none⟩) 1 1 (KW.cel x) ?_ rfl (fun h=>by cases h) [] ?_ (ins_one x) ?_ ?_ ?_ ?_
    · rfl
    · rfl
    · rfl
    · exact HOW.out.alloc _
    · rfl
    · exact (MM.Src.row (MM.Row.new W 44 (KW.cel x)) (by simp) _ (fun j u hu=>hu))
    · simp only [maxLen];omega
    · omega
    · simp;omega
    intro v2 w2 hv2 hg2 hat2;obtain ⟨A2,c2x,rfl,_⟩:=MO.form hv2;have hat3:(Value.slice A2 (m+1) c2x).ownBlock=(Value.slice A m c).ownBlock∨∃ b,(Value.slice A2 (m+1) c2x).ownBlock=some b∧W.heap.size≤b:=hat2.imp id (fun e=>⟨_,e,((MM.Far.refl [] W).alloc _).drew.size⟩);have F2:MM.Far (Value.slice A m c).ownBlock.toList W w2:=far_app hg2;have hne:G∉(Value.slice A m c).ownBlock.toList:=fun hm=>MM.own_own_ne HOW.out HMW.out.main (by decide) G (by simpa using hm) rfl
    have e1:=(F2.cell (p:=⟨G,b*2+1,none⟩) hGW hne).trans hck;have e2:=(F2.frozen (p:=⟨G,b*2+1,none⟩) hGW hne).trans hcf;have HN:=Lib.hid (HMW.out.put (w2:=w2) HB.out HK.out x (by rw [HL.out];exact hv2) F2 hat3 rfl);clear hg2 hv2 hat2 hat3 hne F2)
  all_goals
    go_wp2_with fail
    go_ret
    exact callQ_nil HN.out.1 ((HFW.out.mono (fun b hb _=>by cases hb)).trans HN.out.2.1 (fun b hb _=>hb)) (fun b hb=>(HN.out.2.2 b hb).imp id (fun h=>Nat.le_trans HFW.out.size h))
set_option maxHeartbeats 4000000 in
set_option maxRecDepth 20000 in
theorem leap_call {row:List Rf} (hM:Mg base w q fv bv ks ad s) (hbase:base≤w.heap.size) {b k:Nat} {op:Int} {v:Value} (hI:IsS w (Zof q bv ks ad) q ad v (.leap b op k)) (hb:b < s.bs.length) (hn:s.bs.length≤100000000000) (hlen:lenB s.bs b≤1000000000000) :
    ∃ f cs,v = .func (.func f) #[] cs∧(∀ W,(callFunc f cs).run Tryz.prog W = .ok (.enter f cs) W)∧Calls Tryz.prog f cs w (CallQ base w q fv bv ks ad (stp row (.leap b op k) s)):=by
  obtain ⟨bg,bb,ba,bo,a,rfl,h1,h2,h3,ha,h4⟩:=hI;refine ⟨_,_,rfl,fun W=>by kernel_rfl,?_⟩
  show Calls _ _ _ _ (CallQ base w q fv bv ks ad ([.put b (ki op 0 0 0)],⟨s.bs,s.bx.set k (lenB s.bs b)⟩))
  obtain ⟨G,C,rfl,hC1,hC2,hG1,hG2⟩:=hM.main_form (by omega);obtain ⟨n,hn2⟩:∃ n,s.bs.length=n:=⟨_,rfl⟩
  obtain ⟨kv,hk⟩:∃ kv,ks[b]? = some kv:=⟨_,List.getElem?_eq_getElem (by rw [hM.klen];exact hb)⟩
  have hO:=hM.kid b kv _ hk (blk_at hb);obtain ⟨A,c,rfl,-,hc1,hc2,-,-⟩:=MO.form hO;obtain ⟨m,hm⟩:∃ m,(blk s.bs b).l.length=m:=⟨_,rfl⟩
  have hlen2:m≤1000000000000:=by rw [← hm];exact hlen
  rw [hm] at hk hc1;have hck:=own_cell hM.main ((bC_at s.bs ks hM.klen b _ _ (blk_at hb) hk).2);have c1:=h1.at;have c2:=hM.head.at (i:=1) rfl;have c3:=h2.at;have c4:=h3.at;have hal:=(hM.abase a (List.mem_of_getElem? ha)).2;have hkx:k < s.bx.length:=by rw [← hM.alen];exact (List.getElem?_eq_some_iff.1 ha).1
  obtain ⟨xv,hra⟩:∃ xv:Nat,MM.Row w a 3 [num xv]:=⟨_,hM.box k a _ ha (List.getElem?_eq_getElem hkx)⟩
  have c5:=hra.at (i:=0) rfl;have c6:=hra.frozen 0;have i0:(0:Int)≤(b:Int):=by omega
  have i1:(b:Int) < (n:Int):=by omega
  have HL:Hid (lenB s.bs b=m):=Lib.hid hm;have hN:=hM.noted (n:=m) ha;have FZ:=hN.2;have FZz:∀ x∈Zof q (.slice (some ⟨G,0,none⟩) s.bs.length C) ks ad,x < w.heap.size→x∈Zof q (.slice (some ⟨G,0,none⟩) s.bs.length C) ks ad:=fun x hx _=>hx
  have b1:=(h1.far FZ FZz).at;have b2:=(h2.far FZ FZz).at;have b4:=(h4.far FZ FZz).at;have b3:=(h3.far FZ FZz).at;have b5:=hN.1.head.at (i:=1) rfl;have b6:=own_cell hN.1.main ((bC_at s.bs ks hN.1.klen b _ _ (blk_at hb) hk).2);have HN:=Lib.hid hN;have HP:=Lib.hid (put_any (w.setCell ⟨a,0,none⟩ (num m)).drew q ad (fun x hx=>(hN.1.z x hx).1) b (ki op 0 0 0));have HSZ:=Lib.hid FZ.size;rw [hn2] at c2 b5 hC1 hn;unfold maxLen at hC2 hc2;unfold ki at HP;clear hM hO hk h1 h2 h3 h4 hm hn2 hb hlen hN FZ FZz hra ha hkx;go_enter Tryz.func151,Tryz.ntmps151
  go_wp2
  go_region_held3 (fun w'=>w'.cell? ⟨ba,0,none⟩=some (ptr a)∧w'.cell? ⟨bg,0,none⟩=some (ptr q)∧w'.cell? ⟨q,1,none⟩=some (.slice (some ⟨G,0,none⟩) n C)∧w'.cell? ⟨bb,0,none⟩=some (num b)∧w'.cell? ⟨G,b*2+1,none⟩=some (.slice A m c)) (first | (with_reducible assumption) | go_keep) (fail)
  go_wp2_with (first | (go_at_call 116;refine HP.out.mono ?_;rintro e w1 ⟨v,rfl,hI,hF⟩;obtain ⟨vf,vl,rfl⟩:=hI.func;have HI:=Lib.hid hI;have HF1:=Lib.hid hF;clear hI hF))
  go_ret
  have HD:=Lib.hid (HN.out.1.far ((MM.Far.refl [] _).drew) (by simp));rw [HL.out];refine callQ_row HD.out ?_ HF1.out (vs:=[.func (.func vf) #[] vl]) (Iss.one HI.out) rfl (by omega)
  exact HN.out.2.trans ((MM.Far.refl [] _).drew) (by simp)
set_option maxHeartbeats 4000000 in
set_option maxRecDepth 20000 in
theorem land_call {row:List Rf} (hM:Mg base w q fv bv ks ad s) (hbase:base≤w.heap.size) {b k:Nat} {v:Value} (hI:IsS w (Zof q bv ks ad) q ad v (.land b k)) (hb:b < s.bs.length) (hkx:k < s.bx.length) (hkl:s.bx.getD k 0 < lenB s.bs b) (hn:s.bs.length≤100000000000) (hlen:lenB s.bs b≤1000000000000) :
    ∃ f cs,v = .func (.func f) #[] cs∧(∀ W,(callFunc f cs).run Tryz.prog W = .ok (.enter f cs) W)∧Calls Tryz.prog f cs w (CallQ base w q fv bv ks ad (stp row (.land b k) s)):=by
  obtain ⟨bg,bb,ba,a,rfl,h1,h2,h3,ha⟩:=hI;refine ⟨_,_,rfl,fun W=>by kernel_rfl,?_⟩
  show Calls _ _ _ _ (CallQ base w q fv bv ks ad ([],⟨landB s.bs b (s.bx.getD k 0),s.bx⟩))
  obtain ⟨G,C,rfl,hC1,hC2,hG1,hG2⟩:=hM.main_form (by omega);obtain ⟨n,hn2⟩:∃ n,s.bs.length=n:=⟨_,rfl⟩
  obtain ⟨kv,hk⟩:∃ kv,ks[b]? = some kv:=⟨_,List.getElem?_eq_getElem (by rw [hM.klen];exact hb)⟩
  have hO:=hM.kid b kv _ hk (blk_at hb);obtain ⟨xv,hxv⟩:∃ xv,s.bx.getD k 0=xv:=⟨_,rfl⟩
  have hxk:s.bx[k]? = some xv:=by
    rw [← hxv,List.getD_eq_getElem?_getD,List.getElem?_eq_getElem hkx];rfl
  rw [hxv] at hkl ⊢;obtain ⟨m,hm⟩:∃ m,(blk s.bs b).l.length=m:=⟨_,rfl⟩
  have hm2:lenB s.bs b=m:=hm;rw [hm2] at hkl;obtain ⟨A,c,rfl,-,hc1,hc2,-,hh⟩:=MO.form hO;obtain ⟨g,rfl,hg1,hg2⟩:∃ g,A=some ⟨g,0,none⟩∧base≤g∧g < w.heap.size:=by
    rcases hh with ⟨_,h0,_⟩ | h
    · omega
    · exact h
  have hxat:(blk s.bs b).l[xv]? = some ((blk s.bs b).l.getD xv k0):=by
    rw [List.getD_eq_getElem?_getD,List.getElem?_eq_getElem (by omega)];rfl
  obtain ⟨ya,hya⟩:∃ ya,(iC (blk s.bs b).l)[xv*4+1]? = some ya:=⟨_,List.getElem?_eq_getElem (by rw [iC_len];omega)⟩
  have y1:=own_cell hO hya;have y2:=own_frozen hO (xv*4+1);have hlen2:m≤1000000000000:=by rw [← hm];exact hlen
  rw [hm] at hk hc1;have hck:=own_cell hM.main ((bC_at s.bs ks hM.klen b _ _ (blk_at hb) hk).2);have c1:=h1.at;have c2:=hM.head.at (i:=1) rfl;have c3:=h2.at;have c4:=h3.at;have c5:=(hM.box k a _ ha hxk).at (i:=0) rfl;have hal:=(hM.abase a (List.mem_of_getElem? ha)).2;have hbal:=h3.lt;have i0:(0:Int)≤(b:Int):=by omega
  have i1:(b:Int) < (n:Int):=by omega
  have i2:(0:Int)≤(xv:Int):=by omega
  have i3:(xv:Int) < (m:Int):=by omega
  have HN:=Lib.hid (fun W (f:MM.Far [] w W)=>(hm2 ▸ (hM.far f (by simp)).land (k:=xv) hb (by rw [hm2];exact hkl) hk:Mg base (W.setCell ⟨g,xv*4+1,none⟩ (num m)) q fv (.slice (some ⟨G,0,none⟩) s.bs.length C) ks ad ⟨landB s.bs b xv,s.bx⟩∧MM.Far (Zof q (.slice (some ⟨G,0,none⟩) s.bs.length C) ks ad) W (W.setCell ⟨g,xv*4+1,none⟩ (num m))));rw [hn2] at c2 hC1 hn;unfold maxLen at hC2 hc2;clear hM hO hk h1 h2 h3 hm hm2 hn2 hb hlen ha hkx hxv hxk hkl hxat hya hh;go_enter Tryz.func152,Tryz.ntmps152
  go_wp2;go_quiet (fail)
  go_wp2;go_ret
  have FW:=(MM.Far.refl [] w).drewN nq;obtain ⟨q1,q2⟩:=HN.out _ FW;exact callQ_nil q1 ((FW.mono (fun b hb _=>by cases hb)).trans q2 (fun b hb _=>hb)) (fun b hb=>.inl hb)
end
end GW
end Go.Proofs.YtehgmmbdlnginaaGreatDoor
