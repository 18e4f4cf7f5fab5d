/-
  Several texts in one: LexPlain,LexFacts,ReadPlain,ReadBound,ReadTop. Each one's own head tells its conditions.
-/
import Derived.Lib.Strings
namespace Go.Proofs.YtehgmmbdlnginaaGreatDoor
namespace LX
def let_ (c:UInt8):Bool:=(decide (97≤c.toNat) && decide (c.toNat≤122)) || (decide (65≤c.toNat) && decide (c.toNat≤90)) || (decide (48≤c.toNat) && decide (c.toNat≤57)) || [33,36,37,38,42,43,45,47,58,60,61,62,63,94,95,126].contains c
def dig (c:UInt8):Bool:=decide (48≤c.toNat) && decide (c.toNat≤57)
def blank (c:UInt8):Bool:=c == 32 || c == 9 || c == 10
def mark (c:UInt8):Int:=if c=40 then 1 else if c=41 then 2 else if c=39 then 3 else 0
def word (l:List UInt8):List UInt8:=l.takeWhile let_
def unsign (w:List UInt8):List UInt8:=match w with | []=>[] | c::r=>if c=45 then r else c::r
def number (w:List UInt8):Bool:=(unsign w).all dig && decide (0 < (unsign w).length)
def val (w:List UInt8):Int:=w.foldl (fun n c=>n*10+((c.toNat:Int) - 48)) 0
def value (w:List UInt8):Int:=match w with | []=>0 | c::r=>if c=45 then - val r else val (c::r)
structure Tk where
  kind:Int
  at_:Int
  n:Int
  s:ByteArray
def str (w:List UInt8):ByteArray:=⟨w.toArray⟩
def emp:ByteArray:=⟨#[]⟩
inductive St where
  | skip (k:Nat)
  | tok (kind n:Int) (s:ByteArray) (k:Nat)
  | err (e:Int)
def one (w:List UInt8):St :=
  if number w=false then
    if 32 < w.length then .err 3 else .tok 6 0 (str w) w.length
  else if 13 < w.length then .err 51
  else if value w≤-1099511627776∨1099511627776≤value w then .err 51
  else .tok 4 (value w) emp w.length
def note (l:List UInt8):List UInt8:=l.takeWhile (fun c=>c != 10)
def step (l:List UInt8):St :=
  match l with
  | []=>.err 0
  | c::r =>
    if blank c then .skip 1
    else if c=59 then .skip (note (c::r)).length
    else if mark c≠0 then .tok (mark c) 0 emp 1
    else if c=35 then
      if word r=[116] then .tok 5 1 emp 2
      else if word r=[102] then .tok 5 0 emp 2
      else .err 50
    else if let_ c=false then .err 50
    else one (word (c::r))
def lexF:Nat→List UInt8→Nat→List Tk→Except (Nat × Int) (List Tk)
  | 0,_,_,out=>.ok out
  | f+1,l,a,out =>
    match l with
    | []=>.ok out
    | c::r =>
      match step (c::r) with
      | .skip k=>lexF f ((c::r).drop k) (a+k) out
      | .tok kd n s k=>lexF f ((c::r).drop k) (a+k) (out++[⟨kd,a,n,s⟩])
      | .err e=>.error (a,e)
def lexL (l:List UInt8) (a:Nat) (out:List Tk):Except (Nat × Int) (List Tk):=lexF l.length l a out
def bts (s:ByteArray):List UInt8:=s.data.toList
def lex (s:ByteArray):Except (Nat × Int) (List Tk):=if 4000 < s.size then .error (0,3) else lexL (bts s) 0 []
theorem word_pos {c:UInt8} {r:List UInt8} (h:let_ c=true):0 < (word (c::r)).length:=by simp [word,h]
theorem word_le (l:List UInt8):(word l).length≤l.length:=(List.takeWhile_prefix _).length_le
theorem note_le (l:List UInt8):(note l).length≤l.length:=(List.takeWhile_prefix _).length_le
theorem one_k {w:List UInt8} {kd n:Int} {s:ByteArray} {k:Nat} (h:one w = .tok kd n s k):k=w.length:=by
  unfold one at h;split at h
  · split at h
    · cases h
    · injection h with _ _ _ h;exact h.symm
  · split at h
    · cases h
    · split at h
      · cases h
      · injection h with _ _ _ h;exact h.symm
theorem one_skip {w:List UInt8} {k:Nat} (h:one w = .skip k):False:=by
  unfold one at h;split at h
  · split at h <;> cases h
  · split at h
    · cases h
    · split at h <;> cases h
def adv:St→Nat
  | .skip k=>k
  | .tok _ _ _ k=>k
  | .err _=>0
theorem step_adv (c:UInt8) (r:List UInt8):(∃ e,step (c::r) = .err e)∨(0 < adv (step (c::r))∧adv (step (c::r))≤(c::r).length):=by
  unfold step;by_cases h1:blank c=true
  · right;simp [h1,adv]
  simp only [h1,Bool.false_eq_true,if_false]
  by_cases h2:c=59
  · right
    subst h2;rw [if_pos rfl];refine ⟨?_,note_le _⟩
    simp [adv,note]
  rw [if_neg h2];by_cases h3:mark c≠0
  · right;rw [if_pos h3];simp [adv]
  rw [if_neg h3];by_cases h4:c=35
  · rw [if_pos h4];by_cases h5:word r=[116]
    · right
      rw [if_pos h5];have:=word_le r;rw [h5] at this;simp [adv] at this ⊢;omega
    rw [if_neg h5];by_cases h6:word r=[102]
    · right
      rw [if_pos h6];have:=word_le r;rw [h6] at this;simp [adv] at this ⊢;omega
    rw [if_neg h6];exact .inl ⟨_,rfl⟩
  rw [if_neg h4];by_cases h7:let_ c=false
  · left;rw [if_pos h7];exact ⟨_,rfl⟩
  rw [if_neg h7];have h8:let_ c=true:=by simpa using h7
  cases h9:one (word (c::r)) with
  | skip k=>exact (one_skip h9).elim
  | tok kd n s k =>
    right
    have:=one_k h9;subst this;exact ⟨word_pos h8,word_le _⟩
  | err e=>exact .inl ⟨_,rfl⟩
theorem lexF_eq:∀ (f g:Nat) (l:List UInt8) (a:Nat) (out:List Tk),l.length≤f→l.length≤g→lexF f l a out=lexF g l a out:=by
  intro f;induction f with
  | zero =>
    intro g l a out h _;have:l=[]:=List.eq_nil_of_length_eq_zero (by omega);subst this;cases g <;> rfl
  | succ f ih =>
    intro g l a out hf hg;cases l with
    | nil=>cases g <;> rfl
    | cons c r =>
      cases g with
      | zero=>simp at hg
      | succ g =>
        simp only [lexF]
        simp only [List.length_cons] at hf hg
        rcases step_adv c r with ⟨e,he⟩ | ⟨h1,_⟩
        · rw [he]
        · have hd:∀ k,0 < k→((c::r).drop k).length≤r.length:=by
            intro k hk;rw [List.length_drop,List.length_cons];omega
          cases hs:step (c::r) with
          | err e=>rfl
          | skip k =>
            rw [hs] at h1;have:=hd k h1;exact ih g _ _ _ (by omega) (by omega)
          | tok kd n s k =>
            rw [hs] at h1;have:=hd k h1;exact ih g _ _ _ (by omega) (by omega)
theorem lexL_nil (a:Nat) (out:List Tk):lexL [] a out = .ok out:=rfl
theorem lexL_step (c:UInt8) (r:List UInt8) (a:Nat) (out:List Tk):lexL (c::r) a out=match step (c::r) with
    | .skip k=>lexL ((c::r).drop k) (a+k) out
    | .tok kd n s k=>lexL ((c::r).drop k) (a+k) (out++[⟨kd,a,n,s⟩])
    | .err e=>.error (a,e):=by
  have e1:lexL (c::r) a out=lexF (r.length+1) (c::r) a out:=rfl;rw [e1];simp only [lexF]
  rcases step_adv c r with ⟨e,he⟩ | ⟨h1,_⟩
  · rw [he]
  · have hd:∀ k,0 < k→((c::r).drop k).length≤r.length:=by
      intro k hk;rw [List.length_drop,List.length_cons];omega
    cases hs:step (c::r) with
    | err e=>rfl
    | skip k =>
      rw [hs] at h1;exact lexF_eq _ _ _ _ _ (hd k h1) (Nat.le_refl _)
    | tok kd n s k =>
      rw [hs] at h1;exact lexF_eq _ _ _ _ _ (hd k h1) (Nat.le_refl _)
end LX
end Go.Proofs.YtehgmmbdlnginaaGreatDoor
namespace Go.Proofs.YtehgmmbdlnginaaGreatDoor
namespace LX
theorem tw_app (p:UInt8→Bool) (l b:List UInt8) (x:UInt8) (h:p x=false):(l++x::b).takeWhile p=l.takeWhile p:=by
  induction l with
  | nil=>simp [h]
  | cons c l ih =>
    by_cases hc:p c=true
    · simp only [List.cons_append,List.takeWhile_cons,hc,if_true,ih]
    · simp only [List.cons_append,List.takeWhile_cons,hc,Bool.false_eq_true,if_false]
theorem word_app (l b:List UInt8) (x:UInt8) (h:let_ x=false):word (l++x::b)=word l:=tw_app _ l b x h
theorem adv_le {c:UInt8} {r:List UInt8} {s:St} (h:step (c::r)=s) (hs:∀ e,s≠.err e):0 < adv s∧adv s≤r.length+1:=by
  rcases step_adv c r with ⟨e,he⟩ | h2
  · exact absurd (h.symm.trans he) (hs e)
  · rw [h] at h2;simpa using h2
def shiftT (d:Nat) (t:Tk):Tk:=⟨t.kind,t.at_+d,t.n,t.s⟩
theorem lexL_shift (d:Nat) (pre:List Tk):∀ (n:Nat) (l:List UInt8) (p:Nat) (out:List Tk),l.length≤n →
    lexL l (p+d) (pre++out.map (shiftT d))=match lexL l p out with | .error (q,e)=>.error (q+d,e) | .ok ts=>.ok (pre++ts.map (shiftT d)):=by
  intro n;induction n with
  | zero =>
    intro l p out h;have:l=[]:=List.eq_nil_of_length_eq_zero (by omega);subst this;rfl
  | succ n ih =>
    intro l p out h;cases l with
    | nil=>rfl
    | cons c r =>
      rw [lexL_step,lexL_step];simp only [List.length_cons] at h
      cases hs:step (c::r) with
      | err e=>rfl
      | skip k =>
        obtain ⟨h1,h2⟩:=adv_le hs (by intro e he;cases he);simp only [adv] at h1 h2
        simp only
        rw [show p+d+k=p+k+d from by omega];exact ih _ _ _ (by rw [List.length_drop,List.length_cons];omega)
      | tok kd n s k =>
        obtain ⟨h1,h2⟩:=adv_le hs (by intro e he;cases he);simp only [adv] at h1 h2
        simp only
        rw [show p+d+k=p+k+d from by omega,← ih _ _ _ (by rw [List.length_drop,List.length_cons];omega)];congr 1
        rw [List.map_append,← List.append_assoc];simp [shiftT]
end LX
end Go.Proofs.YtehgmmbdlnginaaGreatDoor
namespace Go.Proofs.YtehgmmbdlnginaaGreatDoor
namespace RX
open LX
structure Nd where
  kind:Int
  at_:Int
  n:Int
  s:ByteArray
  l:List Nat
structure Pt where
  at_:Int
  q:Bool
  l:List Nat
structure Rd where
  row:List Nd
  tops:List Nat
  op:List Pt
def putO:List Pt→List Nd→List Nat→Nd→Rd
  | [],row,tops,x=>⟨row++[x],tops++[row.length],[]⟩
  | p::ps,row,tops,x =>
    if p.q=true∧p.l.length+1=2 then putO ps (row++[x]) tops ⟨4,p.at_,0,emp,p.l++[row.length]⟩
    else ⟨row++[x],tops,⟨p.at_,p.q,p.l++[row.length]⟩::ps⟩
def put (r:Rd) (x:Nd):Rd:=putO r.op r.row r.tops x
def close (r:Rd):Rd:=match r.op with
  | []=>r
  | p::ps=>putO ps r.row r.tops ⟨4,p.at_,0,emp,p.l⟩
def quoteB:ByteArray:=⟨#[113,117,111,116,101]⟩
def inQ (r:Rd):Bool:=match r.op with
  | []=>false
  | p::_=>p.q
def token (r:Rd) (t:Tk):Except Int Rd :=
  if t.kind=4 then .ok (put r ⟨1,t.at_,t.n,emp,[]⟩)
  else if t.kind=5 then .ok (put r ⟨2,t.at_,t.n,emp,[]⟩)
  else if t.kind=6 then .ok (put r ⟨3,t.at_,0,t.s,[]⟩)
  else if t.kind=1 then (if 50≤r.op.length then .error 62 else .ok ⟨r.row,r.tops,⟨t.at_,false,[]⟩::r.op⟩)
  else if t.kind=3 then (if 50≤r.op.length then .error 62 else .ok (put ⟨r.row,r.tops,⟨t.at_,true,[]⟩::r.op⟩ ⟨3,t.at_,0,quoteB,[]⟩))
  else if t.kind=2 then (if inQ r=true then .error 63 else if r.op=[] then .error 61 else .ok (close r))
  else .ok r
def tokens:List Tk→Rd→Except (Int × Int) Rd
  | [],r=>.ok r
  | t::ts,r=>match token r t with
    | .error e=>.error (t.at_,e)
    | .ok r=>tokens ts r
def readT (ts:List Tk):Except (Int × Int) Rd:=match tokens ts ⟨[],[],[]⟩ with
  | .error e=>.error e
  | .ok r=>match r.op with
    | []=>.ok r
    | p::_=>match ts.getLast? with
      | none=>.error (p.at_,60)
      | some t=>if t.kind=3 then .error (t.at_,63) else .error (p.at_,60)
def read (s:ByteArray):Except (Int × Int) Rd:=match LX.lex s with
  | .error (q,e)=>.error ((q:Int),e)
  | .ok ts=>readT ts
end RX
end Go.Proofs.YtehgmmbdlnginaaGreatDoor
namespace Go.Proofs.YtehgmmbdlnginaaGreatDoor
namespace RX
open LX
structure Bd (r:Rd) (n:Nat):Prop where
  sum:r.row.length+r.op.length≤n
  tops:r.tops.length≤n
  lists:∀ p∈r.op,p.l.length≤n
theorem Bd.mono {r:Rd} {n m:Nat} (h:Bd r n) (hm:n≤m):Bd r m:=⟨Nat.le_trans h.sum hm,Nat.le_trans h.tops hm,fun p hp=>Nat.le_trans (h.lists p hp) hm⟩
theorem putO_bd:∀ (ps:List Pt) (row:List Nd) (tops:List Nat) (x:Nd) (n:Nat),Bd ⟨row,tops,ps⟩ n→Bd (putO ps row tops x) (n+1):=by
  intro ps;induction ps with
  | nil =>
    intro row tops x n h;have h1:=h.sum;have h2:=h.tops;simp only [List.length_nil] at h1 h2
    refine ⟨?_,?_,fun p hp=>by simp [putO] at hp⟩ <;> simp [putO] <;> omega
  | cons p ps ih =>
    intro row tops x n h;have h1:=h.sum;have h2:=h.tops;have h3:=h.lists;simp only [List.length_cons] at h1 h2
    unfold putO;split
    · refine ih _ _ _ _ ⟨?_,h2,fun q hq=>h3 q (List.mem_cons_of_mem _ hq)⟩
      simp only [List.length_append,List.length_cons,List.length_nil];omega
    · refine ⟨?_,by simp only;omega,fun q hq=>?_⟩
      · simp only [List.length_append,List.length_cons,List.length_nil];omega
      · rcases List.mem_cons.1 hq with rfl | hq
        · have:=h3 p (List.mem_cons_self ..);simp only [List.length_append,List.length_cons,List.length_nil];omega
        · have:=h3 q (List.mem_cons_of_mem _ hq);omega
theorem token_bd {r r':Rd} {t:Tk} {n:Nat} (h:Bd r n) (e:token r t = .ok r'):Bd r' (n+2):=by
  unfold token at e;have hp:∀ x,Bd (put r x) (n+2):=fun x=>(putO_bd r.op r.row r.tops x n h).mono (by omega)
  have hb:∀ b,Bd ⟨r.row,r.tops,⟨t.at_,b,[]⟩::r.op⟩ (n+1):=fun b=>by
    refine ⟨by have:=h.sum;simp only [List.length_cons];omega,by have:=h.tops;simp only;omega,fun q hq=>?_⟩
    rcases List.mem_cons.1 hq with rfl | hq
    · simp
    · have:=h.lists q hq;omega
  split at e
  · injection e with e;subst e;exact hp _
  split at e
  · injection e with e;subst e;exact hp _
  split at e
  · injection e with e;subst e;exact hp _
  split at e
  · split at e
    · cases e
    · injection e with e;subst e;exact (hb _).mono (by omega)
  split at e
  · split at e
    · cases e
    · injection e with e;subst e;exact (putO_bd _ _ _ _ _ (hb _)).mono (by omega)
  split at e
  · split at e
    · cases e
    · split at e
      · cases e
      · injection e with e;subst e;unfold close;split
        · exact h.mono (by omega)
        · rename_i p ps hop;refine (putO_bd ps r.row r.tops _ n ⟨?_,h.tops,fun q hq=>h.lists q (by rw [hop];exact List.mem_cons_of_mem _ hq)⟩).mono (by omega)
          have:=h.sum;rw [hop,List.length_cons] at this;simp only;omega
  · injection e with e;subst e;exact h.mono (by omega)
end RX
end Go.Proofs.YtehgmmbdlnginaaGreatDoor
namespace Go.Proofs.YtehgmmbdlnginaaGreatDoor
namespace RX
open LX
def QOne (ps:List Pt):Prop:=∀ p∈ps,p.q=true→p.l.length=1
theorem putO_q:∀ (ps:List Pt) (row:List Nd) (tops:List Nat) (x:Nd),QOne ps→QOne (putO ps row tops x).op∧∀ p,(putO ps row tops x).op.head? = some p→p.q=false:=by
  intro ps;induction ps with
  | nil=>intro row tops x _;simp [putO,QOne]
  | cons p ps ih =>
    intro row tops x h;have h2:QOne ps:=fun q hq=>h q (List.mem_cons_of_mem _ hq)
    unfold putO;split
    · exact ih _ _ _ h2
    · rename_i hn;have hq:p.q=false:=by
        cases hq:p.q with
        | false=>rfl
        | true =>
          have:=h p (List.mem_cons_self ..) hq;exact absurd ⟨hq,by omega⟩ hn
      refine ⟨fun z hz hzq=>?_,fun z hz=>?_⟩
      · rcases List.mem_cons.1 hz with rfl | hz
        · simp [hq] at hzq
        · exact h2 z hz hzq
      · simp only [List.head?_cons,Option.some.injEq] at hz
        subst hz;exact hq
def TopOf (t:Option Tk) (ps:List Pt):Prop:=∀ p,ps.head? = some p→∀ u:Tk,t=some u→(p.q=true∧u.kind=3∧u.at_=p.at_)∨(p.q=false∧u.kind≠3)
theorem token_q {r r':Rd} {t:Tk} (h:QOne r.op) (hk:t.kind=1∨t.kind=2∨t.kind=3∨t.kind=4∨t.kind=5∨t.kind=6) (e:token r t = .ok r'):QOne r'.op∧TopOf (some t) r'.op:=by
  have hp:∀ ps row tops x,QOne ps→t.kind≠3→QOne (putO ps row tops x).op∧TopOf (some t) (putO ps row tops x).op:=fun ps row tops x h hk=>by
    obtain ⟨h1,h2⟩:=putO_q ps row tops x h;exact ⟨h1,fun p hp t' ht=>.inr ⟨h2 p hp,by simp at ht;subst ht;exact hk⟩⟩
  unfold token at e
  rcases hk with k | k | k | k | k | k <;> simp only [k] at e
  · simp at e
    split at e
    · cases e
    injection e with e;subst e;refine ⟨fun p hp hq=>?_,fun p hp t' ht=>?_⟩
    · rcases List.mem_cons.1 hp with rfl | hp
      · simp at hq
      · exact h p hp hq
    · simp at hp ht
      subst hp;subst ht;exact .inr ⟨rfl,by omega⟩
  · simp at e
    split at e
    · cases e
    · split at e
      · cases e
      · injection e with e;subst e;unfold close;split
        · rename_i h1 h2 _ h3;exact absurd h3 h2
        · rename_i p ps hop;exact hp _ _ _ _ (fun q hq=>h q (by rw [hop];exact List.mem_cons_of_mem _ hq)) (by omega)
  · simp at e
    split at e
    · cases e
    injection e with e;subst e;simp only [put,putO]
    rw [if_neg (by simp)];refine ⟨fun p hp hq=>?_,fun p hp t' ht=>?_⟩
    · rcases List.mem_cons.1 hp with rfl | hp
      · simp
      · exact h p hp hq
    · simp at hp ht
      subst hp;subst ht;exact .inl ⟨rfl,k,rfl⟩
  · simp at e;subst e;exact hp _ _ _ _ h (by omega)
  · simp at e;subst e;exact hp _ _ _ _ h (by omega)
  · simp at e;subst e;exact hp _ _ _ _ h (by omega)
theorem tokens_q:∀ (ts:List Tk) (r r':Rd) (t0:Option Tk),QOne r.op→TopOf t0 r.op→(∀ t∈ts,t.kind=1∨t.kind=2∨t.kind=3∨t.kind=4∨t.kind=5∨t.kind=6)→tokens ts r = .ok r' →
    QOne r'.op∧TopOf (ts.getLast?.or t0) r'.op:=by
  intro ts;induction ts with
  | nil=>intro r r' t0 h h0 _ e;simp [tokens] at e;subst e;simpa using ⟨h,h0⟩
  | cons t ts ih =>
    intro r r' t0 h h0 hk e;simp only [tokens] at e
    cases hT:token r t with
    | error z=>rw [hT] at e;cases e
    | ok r1 =>
      rw [hT] at e;obtain ⟨h1,h2⟩:=token_q h (hk t (List.mem_cons_self ..)) hT;obtain ⟨h3,h4⟩:=ih r1 r' (some t) h1 h2 (fun t ht=>hk t (List.mem_cons_of_mem _ ht)) e;refine ⟨h3,?_⟩
      cases ts with
      | nil=>simpa using h4
      | cons u us =>
        rw [List.getLast?_cons_cons];have:(u::us).getLast?≠none:=by simp
        cases hg:(u::us).getLast? with
        | none=>exact absurd hg this
        | some v=>rw [hg] at h4;simpa using h4
def endE (r:Rd):Except (Int × Int) Rd:=match r.op with
  | []=>.ok r
  | p::_=>if p.q=true then .error (p.at_,63) else .error (p.at_,60)
theorem readT_end {ts:List Tk} (hk:∀ t∈ts,t.kind=1∨t.kind=2∨t.kind=3∨t.kind=4∨t.kind=5∨t.kind=6):readT ts=match tokens ts ⟨[],[],[]⟩ with
    | .error e=>.error e
    | .ok r=>endE r:=by
  unfold readT;cases hT:tokens ts ⟨[],[],[]⟩ with
  | error e=>rfl
  | ok r =>
    simp only
    obtain ⟨_,h⟩:=tokens_q ts _ _ none (by intro p hp;simp at hp) (by intro p hp;simp at hp) hk hT;unfold endE;cases hop:r.op with
    | nil=>rfl
    | cons p ps =>
      rw [hop] at h;have hne:ts≠[]:=by
        intro e;subst e;simp [tokens] at hT
        subst hT;cases hop
      cases hg:ts.getLast? with
      | none=>simp at hg;exact absurd hg hne
      | some t =>
        rw [hg] at h;simp only
        rcases h p (by simp) t (by simp) with ⟨h1,h2,h3⟩ | ⟨h1,h2⟩
        · rw [if_pos h2,if_pos h1,h3]
        · rw [if_neg h2,if_neg (by simp [h1])]
theorem token_err {r:Rd} {t:Tk} {z:Int} (h:token r t = .error z):z=61∨z=62∨z=63:=by
  unfold token at h
  repeat' (first | (cases h;done) | (injection h with h;omega) | split at h)
theorem end_ok {r R:Rd} (h:endE r = .ok R):R=r:=by
  unfold endE at h
  repeat' (first | (injection h with h;exact h.symm) | (cases h;done) | split at h)
def fin (X:Except (Int × Int) Rd):Except (Int × Int) Rd:=match X with
  | .error e=>.error e
  | .ok r=>endE r
theorem readT_fin {ts:List Tk} (hk:∀ t∈ts,t.kind=1∨t.kind=2∨t.kind=3∨t.kind=4∨t.kind=5∨t.kind=6):readT ts=fin (tokens ts ⟨[],[],[]⟩):=readT_end hk
end RX
end Go.Proofs.YtehgmmbdlnginaaGreatDoor
