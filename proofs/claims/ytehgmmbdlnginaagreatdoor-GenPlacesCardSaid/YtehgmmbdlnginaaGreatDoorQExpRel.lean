/-
  Layer 8 in plain words: data that are alike, but for where they stand, or that lie further on, have forms that are alike. No condition.
-/
import Derived.Test.YtehgmmbdlnginaaGreatDoorQExpPure
namespace Go.Proofs.YtehgmmbdlnginaaGreatDoor
namespace EX
open LX RX SX
section
variable (D:Nat) (A:Int→Int→Prop)
structure NdS (x x':Nd):Prop where
  kind:x'.kind=x.kind
  at_:A x.at_ x'.at_
  n:x'.n=x.n
  s:x'.s=x.s
  l:x'.l=x.l.map (· + D)
def Rows (ns ns':List Nd):Prop:=∀ i,i < ns.length→NdS D A (ndAt ns i) (ndAt ns' (i+D))
inductive PtS:Pt→Pt→Prop where
  | top (i:Nat):PtS (.top i) (.top (i+D))
  | dat (i:Nat):PtS (.dat i) (.dat (i+D))
  | seq {a a':Int} (l:List Nat) (h:A a a'):PtS (.seq a l) (.seq a' (l.map (· + D)))
  | tr {a a':Int} (n:Int) (h:A a a'):PtS (.tr a n) (.tr a' n)
  | kept {a a':Int} (h:A a a'):PtS (.kept a) (.kept a')
  | fn {a a':Int} {b b':Pt} (ns:List ByteArray) (h:A a a') (hb:PtS b b'):PtS (.fn a ns b) (.fn a' ns b')
  | nested {a a':Int} {b b':Pt} (ns:List ByteArray) (vs:List Nat) (h:A a a') (hb:PtS b b'):PtS (.nested a ns vs b) (.nested a' ns (vs.map (· + D)) b')
  | cond {a a':Int} (l:List Nat) (h:A a a'):PtS (.cond a l) (.cond a' (l.map (· + D)))
  | and {a a':Int} (l:List Nat) (h:A a a'):PtS (.and a l) (.and a' (l.map (· + D)))
  | or {a a':Int} (l:List Nat) (h:A a a'):PtS (.or a l) (.or a' (l.map (· + D)))
  | orb {a a':Int} (l:List Nat) (h:A a a'):PtS (.orb a l) (.orb a' (l.map (· + D)))
structure FmS (f f':Fm):Prop where
  kind:f'.kind=f.kind
  at_:A f.at_ f'.at_
  n:f'.n=if f.kind=3 then f.n+(D:Int) else f.n
  s:f'.s=f.s
  p:f'.p=f.p
inductive PtsS:List Pt→List Pt→Prop where
  | nil:PtsS [] []
  | cons {p p':Pt} {ps ps':List Pt} (h:PtS D A p p') (hs:PtsS ps ps'):PtsS (p::ps) (p'::ps')
inductive PlS:Pl→Pl→Prop where
  | bad {a a':Int} (h:A a a'):PlS (.bad a) (.bad a')
  | mk {f f':Fm} {ps ps':List Pt} (h:FmS D A f f') (hs:PtsS D A ps ps'):PlS (.mk f ps) (.mk f' ps')
  | ins {p p':Pt} (h:PtS D A p p'):PlS (.ins p) (.ins p')
end
section
variable {D:Nat} {A:Int→Int→Prop} {ns ns':List Nd}
theorem pts_dats (l:List Nat):PtsS D A (l.map .dat) ((l.map (· + D)).map .dat):=by
  induction l with
  | nil=>exact .nil
  | cons a l ih=>exact .cons (.dat a) ih
theorem getD_shift {l:List Nat} {k:Nat} (h:k < l.length):(l.map (· + D)).getD k 0=l.getD k 0+D:=by
  rw [List.getD_eq_getElem?_getD,List.getD_eq_getElem?_getD,List.getElem?_map,List.getElem?_eq_getElem h];rfl
theorem pt_body {a a':Int} (l:List Nat) (h:A a a'):PtS D A (body a l) (body a' (l.map (· + D))):=by
  match l with
  | []=>exact .seq [] h
  | [x]=>exact .dat x
  | x::y::t=>exact .seq (x::y::t) h
theorem nameOf_S (R:Rows D A ns ns') {i:Nat} (hi:i < ns.length):nameOf ns' (i+D)=nameOf ns i:=by
  unfold nameOf;rw [(R i hi).s]
theorem namesG_S (R:Rows D A ns ns'):∀ (l:List Nat) (acc:List ByteArray),(∀ i∈l,i < ns.length)→namesG ns' (l.map (· + D)) acc=namesG ns l acc:=by
  intro l;induction l with
  | nil=>intro acc _;rfl
  | cons i l ih =>
    intro acc h;rw [List.map_cons];unfold namesG;rw [nameOf_S R (h i (List.mem_cons_self ..))];cases nameOf ns i with
    | none=>rfl
    | some s =>
      simp only
      rw [ih _ (fun j hj=>h j (List.mem_cons_of_mem _ hj))]
theorem namesOf_S (R:Rows D A ns ns') (l:List Nat) (h:∀ i∈l,i < ns.length):namesOf ns' (l.map (· + D))=namesOf ns l:=namesG_S R l [] h
theorem starG_S (R:Rows D A ns ns'):∀ (l:List Nat) (acc:List ByteArray),(∀ i∈l,i < ns.length)→starG ns' (l.map (· + D)) acc=starG ns l acc:=by
  intro l;induction l with
  | nil=>intro acc _;rfl
  | cons i l ih =>
    intro acc h;rw [List.map_cons];unfold starG;rw [nameOf_S R (h i (List.mem_cons_self ..))];cases nameOf ns i with
    | none=>rfl
    | some s =>
      simp only
      rw [ih _ (fun j hj=>h j (List.mem_cons_of_mem _ hj))]
def shP (D:Nat):Option (List Nat × List Nat)→Option (List Nat × List Nat)
  | none=>none
  | some (a,b)=>some (a.map (· + D),b.map (· + D))
theorem pairsG_S (R:Rows D A ns ns'):∀ (l bs vs:List Nat),(∀ i∈l,i < ns.length)→pairsG ns' (l.map (· + D)) (bs.map (· + D)) (vs.map (· + D))=shP D (pairsG ns l bs vs):=by
  intro l;induction l with
  | nil=>intro bs vs _;rfl
  | cons i l ih =>
    intro bs vs h;rw [List.map_cons];unfold pairsG;have hl:=(R i (h i (List.mem_cons_self ..))).l;rw [hl,List.length_map];by_cases h2:(ndAt ns i).l.length=2
    · rw [if_pos h2,if_pos h2,getD_shift (by omega),getD_shift (by omega)];have:=ih (bs++[(ndAt ns i).l.getD 0 0]) (vs++[(ndAt ns i).l.getD 1 0]) (fun j hj=>h j (List.mem_cons_of_mem _ hj));rw [List.map_append,List.map_append] at this;exact this
    · rw [if_neg h2,if_neg h2];rfl
theorem pairsOf_S (R:Rows D A ns ns') (hok:Ok ns) {i:Nat} (hi:i < ns.length):pairsOf ns' (i+D)=shP D (pairsOf ns i):=by
  unfold pairsOf;have h:=R i hi;have hk:=pairsG_S R (ndAt ns i).l [] [] (fun j hj=>(kid hok hj).2);rw [h.l,h.kind];rw [List.map_nil] at hk;rw [hk];cases pairsG ns (ndAt ns i).l [] [] with
  | none=>rfl
  | some r =>
    obtain ⟨a,b⟩:=r;simp only [shP]
    by_cases h4:(ndAt ns i).kind=4
    · rw [if_pos h4,if_pos h4]
    · rw [if_neg h4,if_neg h4]
theorem fm_of {kind a a' n:Int} {s:ByteArray} {p:List ByteArray} {l l':List Nat} (h:A a a') (hk:kind≠3):FmS D A ⟨kind,a,n,s,p,l⟩ ⟨kind,a',n,s,p,l'⟩:=⟨rfl,h,by show n=if kind=3 then _ else _;rw [if_neg hk],rfl,rfl⟩
theorem pl_choose {a a':Int} {x x' y y' z z':Pt} (h:A a a') (hx:PtS D A x x') (hy:PtS D A y y') (hz:PtS D A z z'):PlS D A (choosePl a x y z) (choosePl a' x' y' z'):=.mk (fm_of h (by decide)) (.cons hx (.cons hy (.cons hz .nil)))
theorem pl_function {a a':Int} {b b':Pt} (names:List ByteArray) (h:A a a') (hb:PtS D A b b'):PlS D A (function a names b) (function a' names b'):=.mk (fm_of h (by decide)) (.cons hb .nil)
theorem pl_definition {a a':Int} {b b':Pt} (s:ByteArray) (h:A a a') (hb:PtS D A b b'):PlS D A (definition a s b) (definition a' s b'):=.mk (fm_of h (by decide)) (.cons hb .nil)
theorem pl_call {a a':Int} {b b':Pt} {vs vs':List Pt} (names:List ByteArray) (h:A a a') (hb:PtS D A b b') (hv:PtsS D A vs vs'):PlS D A (call a names b vs) (call a' names b' vs'):=.mk (fm_of h (by decide)) (.cons (.fn names h hb) hv)
theorem pl_truth {a a':Int} (n:Int) (h:A a a'):PlS D A (truth a n) (truth a' n):=.mk (fm_of h (by decide)) .nil
theorem pl_nested {a a':Int} {b b':Pt} (names:List ByteArray) (vs:List Nat) (h:A a a') (hb:PtS D A b b'):PlS D A (nestedP a names vs b) (nestedP a' names (vs.map (· + D)) b'):=by
  match names,vs with
  | [],_=>exact .ins hb
  | _::_,[]=>exact .ins hb
  | n::ns,v::vs=>exact pl_call [n] h (.nested ns vs h hb) (.cons (.dat v) .nil)
theorem pl_and {a a':Int} (l:List Nat) (h:A a a'):PlS D A (andP a l) (andP a' (l.map (· + D))):=by
  match l with
  | []=>exact pl_truth 1 h
  | [x]=>exact .ins (.dat x)
  | x::y::t=>exact pl_choose h (.dat x) (.and (y::t) h) (.tr 0 h)
theorem pl_or {a a':Int} (l:List Nat) (h:A a a'):PlS D A (orP a l) (orP a' (l.map (· + D))):=by
  match l with
  | []=>exact pl_truth 0 h
  | [x]=>exact .ins (.dat x)
  | x::y::t=>exact pl_call [blank] h (.orb (y::t) h) (.cons (.dat x) .nil)
theorem ite2 {α:Type} {c c':Prop} [Decidable c] [Decidable c'] {a b a' b':α} (Q:α→α→Prop) (hc:c ↔ c') (h1:c→Q a a') (h2:¬ c→Q b b'):Q (if c then a else b) (if c' then a' else b'):=by
  by_cases h:c
  · rw [if_pos h,if_pos (hc.1 h)];exact h1 h
  · rw [if_neg h,if_neg (fun e=>h (hc.2 e))];exact h2 h
theorem drop_shift (l:List Nat):(l.map (· + D)).drop 1=(l.drop 1).map (· + D):=by rw [List.map_drop]
theorem pl_cond (R:Rows D A ns ns') (hok:Ok ns) {a a':Int} (l:List Nat) (hl:∀ i∈l,i < ns.length) (h:A a a'):PlS D A (condP ns a l) (condP ns' a' (l.map (· + D))):=by
  match l,hl with
  | [],_=>exact pl_truth 0 h
  | c::cs,hl =>
    have hd:=R c (hl c (List.mem_cons_self ..));rw [List.map_cons];unfold condP;simp only []
    refine ite2 (PlS D A) (by rw [hd.l,List.length_map]) (fun _=>.bad hd.at_) fun h2=>?_
    have hk0:(ndAt ns c).l.getD 0 0 < ns.length:=(kid hok (mem_getD (by omega))).2;have hb:PtS D A (body (ndAt ns c).at_ ((ndAt ns c).l.drop 1)) (body (ndAt ns' (c+D)).at_ ((ndAt ns' (c+D)).l.drop 1)):=by
      rw [hd.l,drop_shift];exact pt_body _ hd.at_
    have e0:(ndAt ns' (c+D)).l.getD 0 0=(ndAt ns c).l.getD 0 0+D:=by rw [hd.l,getD_shift (by omega)]
    rw [e0];refine ite2 (PlS D A) (by rw [(R _ hk0).s]) (fun _=>pl_choose h (.dat _) hb (.cond cs h)) fun _=>?_
    refine ite2 (PlS D A) (by simp) (fun _=>.bad hd.at_) fun _=>.ins hb
theorem pl_shape (R:Rows D A ns ns') (hok:Ok ns) (s:ByteArray) {a a':Int} (r:List Nat) (hr:∀ i∈r,i < ns.length) (top:Bool) (h:A a a'):PlS D A (shape ns s a r top) (shape ns' s a' (r.map (· + D)) top):=by
  unfold shape;rw [List.length_map];refine ite2 (PlS D A) Iff.rfl (fun _=>.bad h) fun hlen=>?_
  have hg:∀ k,k < r.length→r.getD k 0 < ns.length:=fun k hk=>hr _ (mem_getD hk)
  have hb1:PtS D A (body a (r.drop 1)) (body a' ((r.map (· + D)).drop 1)):=by rw [drop_shift];exact pt_body _ h
  refine ite2 (PlS D A) Iff.rfl (fun e=>?_) fun _=>?_
  · subst e;have:least nQuote=1:=rfl;refine ite2 (PlS D A) Iff.rfl (fun _=>.bad h) fun _=>.mk ⟨rfl,h,?_,rfl,rfl⟩ .nil
    show (((r.map (· + D)).getD 0 0:Nat):Int)=if (3:Int)=3 then ((r.getD 0 0:Nat):Int)+(D:Int) else _
    rw [if_pos rfl,getD_shift (by omega)];omega
  refine ite2 (PlS D A) Iff.rfl (fun e=>?_) fun _=>?_
  · subst e;have:least nIf=2:=rfl;refine ite2 (PlS D A) Iff.rfl (fun _=>.bad h) fun _=>?_
    unfold ifP;rw [getD_shift (by omega),getD_shift (by omega),List.length_map];refine pl_choose h (.dat _) (.dat _) (ite2 (PtS D A) Iff.rfl (fun h2=>?_) fun _=>.tr 0 h)
    rw [getD_shift h2];exact .dat _
  refine ite2 (PlS D A) Iff.rfl (fun e=>?_) fun _=>?_
  · subst e;have:least nLambda=2:=rfl;have hx:=hg 0 (by omega);unfold lambdaP;simp only []
    rw [getD_shift (by omega),(R _ hx).l,(R _ hx).kind,namesOf_S R _ (fun j hj=>(kid hok hj).2)];cases namesOf ns (ndAt ns (r.getD 0 0)).l with
    | none=>exact .bad h
    | some names=>exact ite2 (PlS D A) Iff.rfl (fun _=>pl_function names h hb1) fun _=>.bad h
  refine ite2 (PlS D A) Iff.rfl (fun e=>?_) fun _=>?_
  · subst e;have:least nSet=2:=rfl;refine ite2 (PlS D A) Iff.rfl (fun _=>.bad h) fun _=>?_
    unfold setP;rw [getD_shift (by omega),nameOf_S R (hg 0 (by omega)),getD_shift (by omega)];cases nameOf ns (r.getD 0 0) with
    | none=>exact .bad h
    | some s=>exact .mk (fm_of h (by decide)) (.cons (.dat _) .nil)
  refine ite2 (PlS D A) Iff.rfl (fun _=>.ins (pt_body r h)) fun _=>?_
  refine ite2 (PlS D A) Iff.rfl (fun e=>?_) fun _=>?_
  · subst e;have:least nDefine=2:=rfl;have hx:=hg 0 (by omega);unfold defineP;refine ite2 (PlS D A) Iff.rfl (fun _=>.bad h) fun _=>?_
    rw [getD_shift (by omega),(R _ hx).l];refine ite2 (PlS D A) (by simp) (fun hne=>?_) fun _=>?_
    · unfold defineF;have hpos:0 < (ndAt ns (r.getD 0 0)).l.length:=List.length_pos_iff.2 hne;have hk:∀ j∈(ndAt ns (r.getD 0 0)).l,j < ns.length:=fun j hj=>(kid hok hj).2
      rw [getD_shift hpos,nameOf_S R (hk _ (mem_getD hpos)),drop_shift,namesOf_S R _ (fun j hj=>hk j (mem_drop1 hj))];cases nameOf ns ((ndAt ns (r.getD 0 0)).l.getD 0 0) with
      | none=>exact .bad h
      | some s =>
        cases namesOf ns ((ndAt ns (r.getD 0 0)).l.drop 1) with
        | none=>exact .bad h
        | some names=>exact pl_definition s h (.fn names h hb1)
    · rw [nameOf_S R hx];cases nameOf ns (r.getD 0 0) with
      | none=>exact .bad h
      | some s =>
        simp only
        rw [List.length_map,getD_shift (by omega)];exact ite2 (PlS D A) Iff.rfl (fun _=>.bad h) fun _=>pl_definition s h (.dat _)
  refine ite2 (PlS D A) Iff.rfl (fun e=>?_) fun _=>?_
  · subst e;have:least nLet=2:=rfl;have hx:=hg 0 (by omega);unfold letP;rw [getD_shift (by omega),pairsOf_S R hok hx];cases hp:pairsOf ns (r.getD 0 0) with
    | none=>exact .bad h
    | some x =>
      obtain ⟨bs,vs⟩:=x;obtain ⟨_,_,g3⟩:=pairs_facts hok hp;simp only [shP]
      rw [namesOf_S R _ (fun j hj=>g3 j (List.mem_append_left _ hj))];cases namesOf ns bs with
      | none=>exact .bad h
      | some names=>exact pl_call names h hb1 (pts_dats vs)
  refine ite2 (PlS D A) Iff.rfl (fun e=>?_) fun _=>?_
  · subst e;have:least nStar=2:=rfl;have hx:=hg 0 (by omega);unfold starP;rw [getD_shift (by omega),pairsOf_S R hok hx];cases hp:pairsOf ns (r.getD 0 0) with
    | none=>exact .bad h
    | some x =>
      obtain ⟨bs,vs⟩:=x;obtain ⟨_,_,g3⟩:=pairs_facts hok hp;simp only [shP]
      rw [starG_S R _ _ (fun j hj=>g3 j (List.mem_append_left _ hj))];cases starG ns bs [] with
      | none=>exact .bad h
      | some names=>exact pl_nested names vs h hb1
  refine ite2 (PlS D A) Iff.rfl (fun _=>pl_cond R hok r hr h) fun _=>?_
  refine ite2 (PlS D A) Iff.rfl (fun _=>pl_and r h) fun _=>?_
  refine ite2 (PlS D A) Iff.rfl (fun _=>pl_or r h) fun _=>?_
  refine ite2 (PlS D A) Iff.rfl (fun e=>?_) fun _=>?_
  · subst e;have:least nWhen=2:=rfl;unfold whenP;rw [getD_shift (by omega)];exact pl_choose h (.dat _) hb1 (.tr 0 h)
  refine ite2 (PlS D A) Iff.rfl (fun e=>?_) fun _=>.bad h
  subst e;have:least nUnless=2:=rfl;unfold unlessP;rw [getD_shift (by omega)];exact pl_choose h (.dat _) (.tr 0 h) hb1
theorem pl_plan (R:Rows D A ns ns') (hok:Ok ns) {i:Nat} (hi:i < ns.length) (top:Bool):PlS D A (plan ns i top) (plan ns' (i+D) top):=by
  have hd:=R i hi;have hk:∀ j∈(ndAt ns i).l,j < ns.length:=fun j hj=>(kid hok hj).2
  unfold plan;simp only []
  refine ite2 (PlS D A) (by rw [hd.kind]) (fun _=>.mk ⟨rfl,hd.at_,by show _=if (1:Int)=3 then _ else _;rw [if_neg (by decide)];exact hd.n,rfl,rfl⟩ .nil) fun _=>?_
  refine ite2 (PlS D A) (by rw [hd.kind]) (fun _=>.mk ⟨rfl,hd.at_,by show _=if (2:Int)=3 then _ else _;rw [if_neg (by decide)];exact hd.n,rfl,rfl⟩ .nil) fun _=>?_
  refine ite2 (PlS D A) (by rw [hd.kind]) (fun _=>?_) fun _=>?_
  · exact ite2 (PlS D A) (by rw [hd.s]) (fun _=>.bad hd.at_) fun _=>.mk ⟨rfl,hd.at_,by show (0:Int)=if (4:Int)=3 then _ else _;rw [if_neg (by decide)],hd.s,rfl⟩ .nil
  · unfold listP;rw [hd.l];refine ite2 (PlS D A) (by simp) (fun _=>.bad hd.at_) fun hne=>?_
    have hpos:0 < (ndAt ns i).l.length:=List.length_pos_iff.2 hne;rw [getD_shift hpos,(R _ (hk _ (mem_getD hpos))).s,drop_shift];refine ite2 (PlS D A) Iff.rfl (fun _=>pl_shape R hok _ _ (fun j hj=>hk j (mem_drop1 hj)) top hd.at_) fun _=>?_
    exact .mk (fm_of hd.at_ (by decide)) (pts_dats _)
theorem ev_S (R:Rows D A ns ns') (hok:Ok ns) {p p':Pt} (hp:PtS D A p p') (ht:There ns p):PlS D A (ev ns p) (ev ns' p'):=by
  cases hp with
  | top i=>exact pl_plan R hok ht true
  | dat i=>exact pl_plan R hok ht false
  | seq l h=>exact .mk (fm_of h (by decide)) (pts_dats l)
  | tr n h=>exact pl_truth n h
  | kept h=>exact .mk (fm_of h (by decide)) .nil
  | fn names h hb=>exact pl_function names h hb
  | nested names vs h hb=>exact pl_nested names vs h hb
  | cond l h=>exact pl_cond R hok l ht h
  | and l h=>exact pl_and l h
  | or l h=>exact pl_or l h
  | orb l h=>exact pl_choose h (.kept h) (.kept h) (.or l h)
structure FmE (D E:Nat) (A:Int→Int→Prop) (f f':Fm):Prop where
  fm:FmS D A f f'
  l:f'.l=f.l.map (· + E)
def RowE (D E:Nat) (A:Int→Int→Prop) (pre st st':List Fm):Prop:=pre.length=E∧∃ m,st'=pre++m∧m.length=st.length∧∀ (k:Nat) (h:k < st.length) (h':k < m.length),FmE D E A st[k] m[k]
def ResE (D E:Nat) (A:Int→Int→Prop) (pre:List Fm):Except Int (List Fm × Nat)→Except Int (List Fm × Nat)→Prop
  | .error a,.error a'=>A a a'
  | .ok r,.ok r'=>RowE D E A pre r.1 r'.1∧r'.2=r.2+E
  | _,_=>False
def RessE (D E:Nat) (A:Int→Int→Prop) (pre:List Fm):Except Int (List Fm × List Nat)→Except Int (List Fm × List Nat)→Prop
  | .error a,.error a'=>A a a'
  | .ok r,.ok r'=>RowE D E A pre r.1 r'.1∧r'.2=r.2.map (· + E)
  | _,_=>False
theorem RowE.len {E:Nat} {pre st st':List Fm} (h:RowE D E A pre st st'):st'.length=st.length+E:=by
  obtain ⟨h1,m,rfl,h2,_⟩:=h;rw [List.length_append];omega
theorem RowE.snoc {E:Nat} {pre st st':List Fm} {f f':Fm} (h:RowE D E A pre st st') (hf:FmE D E A f f'):RowE D E A pre (st++[f]) (st'++[f']):=by
  obtain ⟨h1,m,rfl,h2,h3⟩:=h;refine ⟨h1,m++[f'],by rw [List.append_assoc],by simp [h2],fun k hk hk'=>?_⟩
  by_cases h4:k < st.length
  · rw [List.getElem_append_left h4,List.getElem_append_left (by omega)];exact h3 k h4 (by omega)
  · have e:k=st.length:=by simp at hk;omega
    subst e;rw [List.getElem_append_right (Nat.le_refl _),List.getElem_append_right (by omega)];simp [h2]
    exact hf
theorem wps_mem {q:Pt} {ps:List Pt} (h:q∈ps):wt ns q≤wps ns ps:=by
  induction ps with
  | nil=>cases h
  | cons p ps ih =>
    rw [wps_cons]
    rcases List.mem_cons.1 h with rfl | h
    · omega
    · have:=ih h;omega
theorem runs_E {E:Nat} {pre:List Fm} {F F':Pt→List Fm→Except Int (List Fm × Nat)}:∀ (ps ps':List Pt) (st st':List Fm) (l:List Nat),(∀ p∈ps,∀ p' st st',PtS D A p p'→RowE D E A pre st st'→ResE D E A pre (F p st) (F' p' st'))→PtsS D A ps ps'→RowE D E A pre st st' →
    RessE D E A pre (runs F ps st l) (runs F' ps' st' (l.map (· + E))):=by
  intro ps;induction ps with
  | nil =>
    intro ps' st st' l _ h hr;cases h
    exact ⟨hr,rfl⟩
  | cons p ps ih =>
    intro ps' st st' l hF h hr;cases h with
    | cons hp hs =>
      have:=hF p (List.mem_cons_self ..) _ _ _ hp hr;unfold runs;generalize F p st=x at this;generalize F' _ st'=x' at this
      match x,x',this with
      | .error a,.error a',h=>exact h
      | .ok (s1,i),.ok (s1',i'),h =>
        obtain ⟨h1,h2⟩:=h;have h2:i'=i+E:=h2;subst h2;have:=ih _ s1 s1' (l++[i]) (fun q hq=>hF q (List.mem_cons_of_mem _ hq)) hs h1;rw [List.map_append] at this;exact this
theorem run_E (R:Rows D A ns ns') (hok:Ok ns) {E:Nat} {pre:List Fm}:∀ (f:Nat) (p p':Pt) (st st':List Fm),wt ns p≤f→PtS D A p p'→There ns p→RowE D E A pre st st'→ResE D E A pre (run ns f p st) (run ns' f p' st'):=by
  intro f;induction f with
  | zero=>intro p p' st st' hf _ _ _;have:=wt_pos ns p;omega
  | succ f ih =>
    intro p p' st st' hf hp ht hr;have hev:=ev_S R hok hp ht;have hth:=ev_there hok p ht;have hw:=ev_w hok p;unfold run;generalize ev ns p=pl at hev hth hw;generalize ev ns' p'=pl' at hev;cases hev with
    | bad h=>exact h
    | ins h=>exact ih _ _ _ _ (by simp only [wpl] at hw;omega) h hth hr
    | mk h hs =>
      have:=runs_E (F:=run ns f) (F':=run ns' f) _ _ st st' [] (fun q hq q' s s' h1 h2=>ih q q' s s' (by
        simp only [wpl] at hw
        have:=wps_mem (ns:=ns) hq;omega) h1 (hth q hq) h2) hs hr
      unfold onPl;simp only
      rw [List.map_nil] at this;generalize runs (run ns f) _ st []=x at this;generalize runs (run ns' f) _ st' []=x' at this
      match x,x',this with
      | .error a,.error a',h=>exact h
      | .ok (s1,l),.ok (s1',l'),g =>
        obtain ⟨g1,g2⟩:=g;have g2:l'=l.map (· + E):=g2;subst g2;exact ⟨g1.snoc ⟨⟨h.kind,h.at_,h.n,h.s,h.p⟩,rfl⟩,g1.len⟩
def TopsE (D E:Nat) (A:Int→Int→Prop) (pre:List Fm) (t0:List Nat):Except Int (List Fm × List Nat)→Except Int (List Fm × List Nat)→Prop
  | .error a,.error a'=>A a a'
  | .ok r,.ok r'=>RowE D E A pre r.1 r'.1∧r'.2=t0++r.2.map (· + E)
  | _,_=>False
theorem tops_E (R:Rows D A ns ns') (hok:Ok ns) {E:Nat} {pre:List Fm} (f:Nat):∀ (l:List Nat) (st st':List Fm) (t t0:List Nat),(∀ i∈l,i < ns.length∧wt ns (.top i)≤f)→RowE D E A pre st st' →
    TopsE D E A pre t0 (runTops ns f l st t) (runTops ns' f (l.map (· + D)) st' (t0++t.map (· + E))):=by
  intro l;induction l with
  | nil=>intro st st' t t0 _ hr;exact ⟨hr,rfl⟩
  | cons i l ih =>
    intro st st' t t0 hl hr;have:=run_E R hok (pre:=pre) (E:=E) f (.top i) (.top (i+D)) st st' (hl i (List.mem_cons_self ..)).2 (.top i) (hl i (List.mem_cons_self ..)).1 hr;rw [List.map_cons];unfold runTops;generalize run ns f (.top i) st=x at this;generalize run ns' f (.top (i+D)) st'=x' at this
    match x,x',this with
    | .error a,.error a',h=>exact h
    | .ok (s1,k),.ok (s1',k'),h =>
      obtain ⟨h1,h2⟩:=h;have h2:k'=k+E:=h2;subst h2;have:=ih s1 s1' (t++[k]) t0 (fun j hj=>hl j (List.mem_cons_of_mem _ hj)) h1;rw [List.map_append,← List.append_assoc] at this;exact this
end
end EX
end Go.Proofs.YtehgmmbdlnginaaGreatDoor
