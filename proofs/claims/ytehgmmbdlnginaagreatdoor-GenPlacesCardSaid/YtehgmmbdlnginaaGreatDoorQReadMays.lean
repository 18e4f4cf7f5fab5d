/-
  Several texts in one: ReadInv,ReadFacts,ReadR3,ReadLaws1,ReadMay1,ReadMay2. Each one's own head tells its conditions.
-/
import Derived.Test.YtehgmmbdlnginaaGreatDoorQReadCs
import Derived.Test.YtehgmmbdlnginaaGreatDoorQLexPure
import Derived.Test.YtehgmmbdlnginaaGreatDoorQReadPuts
import Derived.Deep.RegionHeld3
import Derived.Deep.DeepCutAuto
namespace Go.Proofs.YtehgmmbdlnginaaGreatDoor
namespace RX
open LX
def GoodN (x:Nd):Prop:=0≤x.at_∧((x.kind=1∧x.s=emp∧x.l=[])∨(x.kind=2∧(x.n=0∨x.n=1)∧x.s=emp∧x.l=[])∨(x.kind=3∧x.n=0∧x.l=[])∨(x.kind=4∧x.n=0∧x.s=emp))
def cnt (row:List Nd) (tops:List Nat) (ps:List Pt) (a:Nat):Nat:=tops.count a+(ps.flatMap (·.l)).count a+(row.flatMap (·.l)).count a
structure Inv (P:Nd→Prop) (Q:Pt→Prop) (row:List Nd) (tops:List Nat) (ps:List Pt) (l:List Nat):Prop where
  one:∀ a,cnt row tops ps a+l.count a=if a < row.length then 1 else 0
  below:∀ (k:Nat) (h:k < row.length),∀ p∈row[k].l,p < k
  up:tops.Pairwise (· < ·)
  good:∀ x∈row,GoodN x∧P x
  open_:∀ p∈ps,0≤p.at_∧Q p
theorem Inv.lt {P:Nd→Prop} {Q:Pt→Prop} {row:List Nd} {tops:List Nat} {ps:List Pt} {l:List Nat} (h:Inv P Q row tops ps l) {a:Nat} (ha:a∈tops∨a∈ps.flatMap (·.l)∨a∈l):a < row.length:=by
  have h1:=h.one a;unfold cnt at h1;have hp:0 < tops.count a+(ps.flatMap (·.l)).count a+l.count a:=by
    rcases ha with ha | ha | ha
    · have:=List.count_pos_iff.2 ha;omega
    · have:=List.count_pos_iff.2 ha;omega
    · have:=List.count_pos_iff.2 ha;omega
  split at h1
  · assumption
  · omega
theorem below_snoc {row:List Nd} {x:Nd} (h:∀ (k:Nat) (h:k < row.length),∀ p∈row[k].l,p < k) (hx:∀ p∈x.l,p < row.length):∀ (k:Nat) (h:k < (row++[x]).length),∀ p∈(row++[x])[k].l,p < k:=by
  intro k hk p hp;by_cases hlt:k < row.length
  · rw [List.getElem_append_left hlt] at hp;exact h k hlt p hp
  · have e:k=row.length:=by simp at hk;omega
    subst e;simp at hp
    exact hx p hp
theorem count_snoc_flat (row:List Nd) (x:Nd) (a:Nat):((row++[x]).flatMap (·.l)).count a=(row.flatMap (·.l)).count a+x.l.count a:=by
  rw [List.flatMap_append,List.count_append];simp
theorem putO_inv {P:Nd→Prop} {Q:Pt→Prop} (hQ:∀ a b l l',Q ⟨a,b,l⟩→Q ⟨a,b,l'⟩) (hPQ:∀ p:Pt,Q p→∀ l,P ⟨4,p.at_,0,emp,l⟩) :
    ∀ (ps:List Pt) (row:List Nd) (tops:List Nat) (x:Nd),Inv P Q row tops ps x.l→GoodN x→P x→let R:=putO ps row tops x;Inv P Q R.row R.tops R.op []:=by
  intro ps;induction ps with
  | nil =>
    intro row tops x h hx hP;have hl:∀ p∈x.l,p < row.length:=fun p hp=>h.lt (.inr (.inr hp))
    refine ⟨fun a=>?_,below_snoc h.below hl,?_,fun y hy=>?_,fun p hp=>by simp [putO] at hp⟩
    · have:=h.one a;unfold cnt at this ⊢;simp only [putO,count_snoc_flat,List.count_append,List.flatMap_nil,List.count_nil,List.length_append,List.length_cons,List.length_nil] at this ⊢
      by_cases e:a=row.length
      · subst e;simp at this ⊢;omega
      · have e2:List.count a [row.length]=0:=List.count_eq_zero_of_not_mem (by simpa using e);rw [e2];split at this <;> split <;> omega
    · simp only [putO,List.pairwise_append]
      refine ⟨h.up,by simp,fun a ha b hb=>?_⟩
      simp at hb
      subst hb;exact h.lt (.inl ha)
    · simp only [putO,List.mem_append,List.mem_singleton] at hy
      rcases hy with hy | rfl
      · exact h.good y hy
      · exact ⟨hx,hP⟩
  | cons p ps ih =>
    intro row tops x h hx hP;have hl:∀ p∈x.l,p < row.length:=fun p hp=>h.lt (.inr (.inr hp))
    have hpl:∀ a∈p.l,a < row.length:=fun a ha=>h.lt (.inr (.inl (by simp [ha])))
    have hgood:∀ y∈row++[x],GoodN y∧P y:=fun y hy=>by
      rcases List.mem_append.1 hy with hy | hy
      · exact h.good y hy
      · rw [List.mem_singleton] at hy;subst hy;exact ⟨hx,hP⟩
    have hone:∀ a,tops.count a+(ps.flatMap (·.l)).count a+((row++[x]).flatMap (·.l)).count a+(p.l++[row.length]).count a=if a < row.length+1 then 1 else 0:=by
      intro a;have:=h.one a;unfold cnt at this;rw [count_snoc_flat,List.count_append];simp only [List.flatMap_cons,List.count_append] at this
      by_cases e:a=row.length
      · subst e;simp at this ⊢;omega
      · have e2:List.count a [row.length]=0:=List.count_eq_zero_of_not_mem (by simpa using e);rw [e2];split at this <;> split <;> omega
    show Inv P Q (putO (p::ps) row tops x).row (putO (p::ps) row tops x).tops (putO (p::ps) row tops x).op []
    unfold putO;split
    · refine ih _ _ ⟨4,p.at_,0,emp,p.l++[row.length]⟩ ⟨fun a=>?_,below_snoc h.below hl,h.up,hgood,fun z hz=>h.open_ z (List.mem_cons_of_mem _ hz)⟩ ⟨(h.open_ p (List.mem_cons_self ..)).1,.inr (.inr (.inr ⟨rfl,rfl,rfl⟩))⟩ (hPQ p (h.open_ p (List.mem_cons_self ..)).2 _)
      have:=hone a;unfold cnt;rw [List.length_append,List.length_singleton];exact this
    · refine ⟨fun a=>?_,below_snoc h.below hl,h.up,hgood,fun z hz=>?_⟩
      · have:=hone a;unfold cnt;rw [List.length_append,List.length_singleton,List.flatMap_cons,List.count_append,List.count_nil];simp only at this ⊢
        omega
      · rcases List.mem_cons.1 hz with rfl | hz
        · exact ⟨(h.open_ p (List.mem_cons_self ..)).1,hQ _ _ _ _ (h.open_ p (List.mem_cons_self ..)).2⟩
        · exact h.open_ z (List.mem_cons_of_mem _ hz)
structure Brings (P:Nd→Prop) (Q:Pt→Prop) (t:Tk):Prop where
  pos:0≤t.at_
  int:t.kind=4→P ⟨1,t.at_,t.n,emp,[]⟩
  bool:t.kind=5→(t.n=0∨t.n=1)∧P ⟨2,t.at_,t.n,emp,[]⟩
  name:t.kind=6→P ⟨3,t.at_,0,t.s,[]⟩
  open_:t.kind=1→∀ b l,Q ⟨t.at_,b,l⟩
  quote:t.kind=3→(∀ b l,Q ⟨t.at_,b,l⟩)∧P ⟨3,t.at_,0,quoteB,[]⟩
theorem inv_push {P:Nd→Prop} {Q:Pt→Prop} {r:Rd} (h:Inv P Q r.row r.tops r.op []) {a:Int} (ha:0≤a) {b:Bool} (hq:Q ⟨a,b,[]⟩):Inv P Q r.row r.tops (⟨a,b,[]⟩::r.op) []:=by
  refine ⟨fun c=>?_,h.below,h.up,h.good,fun z hz=>?_⟩
  · have:=h.one c;unfold cnt at this ⊢;simpa using this
  · rcases List.mem_cons.1 hz with rfl | hz
    · exact ⟨ha,hq⟩
    · exact h.open_ z hz
theorem token_inv {P:Nd→Prop} {Q:Pt→Prop} (hQ:∀ a b l l',Q ⟨a,b,l⟩→Q ⟨a,b,l'⟩) (hPQ:∀ p:Pt,Q p→∀ l,P ⟨4,p.at_,0,emp,l⟩) {r r':Rd} {t:Tk} (h:Inv P Q r.row r.tops r.op []) (hb:Brings P Q t)
    (e:token r t = .ok r'):Inv P Q r'.row r'.tops r'.op []:=by
  unfold token at e;split at e
  · rename_i hk;injection e with e;subst e;exact putO_inv hQ hPQ r.op r.row r.tops ⟨1,t.at_,t.n,emp,[]⟩ h ⟨hb.pos,.inl ⟨rfl,rfl,rfl⟩⟩ (hb.int hk)
  split at e
  · rename_i hk;injection e with e;subst e;exact putO_inv hQ hPQ r.op r.row r.tops ⟨2,t.at_,t.n,emp,[]⟩ h ⟨hb.pos,.inr (.inl ⟨rfl,(hb.bool hk).1,rfl,rfl⟩)⟩ (hb.bool hk).2
  split at e
  · rename_i hk;injection e with e;subst e;exact putO_inv hQ hPQ r.op r.row r.tops ⟨3,t.at_,0,t.s,[]⟩ h ⟨hb.pos,.inr (.inr (.inl ⟨rfl,rfl,rfl⟩))⟩ (hb.name hk)
  split at e
  · rename_i hk;split at e
    · cases e
    · injection e with e;subst e;exact inv_push h hb.pos (hb.open_ hk false [])
  split at e
  · rename_i hk;split at e
    · cases e
    · injection e with e;subst e;exact putO_inv hQ hPQ _ r.row r.tops ⟨3,t.at_,0,quoteB,[]⟩ (inv_push h hb.pos ((hb.quote hk).1 true [])) ⟨hb.pos,.inr (.inr (.inl ⟨rfl,rfl,rfl⟩))⟩ (hb.quote hk).2
  split at e
  · split at e
    · cases e
    · split at e
      · cases e
      · injection e with e;subst e;unfold close;split
        · exact h
        · rename_i p ps hop;rw [hop] at h;have hp:=h.open_ p (List.mem_cons_self ..);refine putO_inv hQ hPQ ps r.row r.tops ⟨4,p.at_,0,emp,p.l⟩ ⟨fun a=>?_,h.below,h.up,h.good,fun z hz=>h.open_ z (List.mem_cons_of_mem _ hz)⟩ ⟨hp.1,.inr (.inr (.inr ⟨rfl,rfl,rfl⟩))⟩ (hPQ p hp.2 _)
          have:=h.one a;unfold cnt at this ⊢;simp only [List.flatMap_cons,List.count_append,List.count_nil] at this ⊢
          omega
  · injection e with e;subst e;exact h
theorem putO_last:∀ (ps:List Pt) (row:List Nd) (tops:List Nat) (x:Nd),(putO ps row tops x).op=[]→(putO ps row tops x).tops.getLast? = some ((putO ps row tops x).row.length - 1):=by
  intro ps;induction ps with
  | nil=>intro row tops x _;simp [putO]
  | cons p ps ih =>
    intro row tops x h;unfold putO at h ⊢;split
    · rename_i hc;rw [if_pos hc] at h;exact ih _ _ _ h
    · rename_i hc;rw [if_neg hc] at h;cases h
def LastOK (r:Rd):Prop:=r.op=[]→r.row=[]∨r.tops.getLast? = some (r.row.length - 1)
theorem token_last {r r':Rd} {t:Tk} (h:LastOK r) (e:token r t = .ok r'):LastOK r':=by
  have hp:∀ ps row tops x,LastOK (putO ps row tops x):=fun ps row tops x hop=>.inr (putO_last ps row tops x hop)
  unfold token at e;split at e
  · injection e with e;subst e;exact hp _ _ _ _
  split at e
  · injection e with e;subst e;exact hp _ _ _ _
  split at e
  · injection e with e;subst e;exact hp _ _ _ _
  split at e
  · split at e
    · cases e
    · injection e with e;subst e;intro h;cases h
  split at e
  · split at e
    · cases e
    · injection e with e;subst e;exact hp _ _ _ _
  split at e
  · split at e
    · cases e
    · split at e
      · cases e
      · injection e with e;subst e;unfold close;split
        · exact h
        · exact hp _ _ _ _
  · injection e with e;subst e;exact h
theorem tokens_inv {P:Nd→Prop} {Q:Pt→Prop} (hQ:∀ a b l l',Q ⟨a,b,l⟩→Q ⟨a,b,l'⟩) (hPQ:∀ p:Pt,Q p→∀ l,P ⟨4,p.at_,0,emp,l⟩):∀ (ts:List Tk) {r r':Rd},Inv P Q r.row r.tops r.op []→LastOK r→(∀ t∈ts,Brings P Q t) →
    tokens ts r = .ok r'→Inv P Q r'.row r'.tops r'.op []∧LastOK r':=by
  intro ts;induction ts with
  | nil=>intro r r' h h2 _ e;simp [tokens] at e;subst e;exact ⟨h,h2⟩
  | cons t ts ih =>
    intro r r' h h2 hb e;simp only [tokens] at e
    cases hT:token r t with
    | error z=>rw [hT] at e;cases e
    | ok r1 =>
      rw [hT] at e;exact ih (token_inv hQ hPQ h (hb t (List.mem_cons_self ..)) hT) (token_last h2 hT) (fun u hu=>hb u (List.mem_cons_of_mem _ hu)) e
end RX
end Go.Proofs.YtehgmmbdlnginaaGreatDoor
namespace Go.Proofs.YtehgmmbdlnginaaGreatDoor
namespace RX
open LX
theorem lex_kinds {s:ByteArray} {ts:List Tk} (h:lex s = .ok ts):∀ t∈ts,t.kind=1∨t.kind=2∨t.kind=3∨t.kind=4∨t.kind=5∨t.kind=6:=fun t ht=>((lex_in_s h).1 t ht).good.kind
theorem read_fin {s:ByteArray} {ts:List Tk} (h:lex s = .ok ts):read s=fin (tokens ts ⟨[],[],[]⟩):=by
  unfold read;rw [h];exact readT_fin (lex_kinds h)
theorem fin_ok {X:Except (Int × Int) Rd} {r:Rd} (h:fin X = .ok r):X = .ok r∧r.op=[]:=by
  cases X with
  | error e=>cases h
  | ok R =>
    have e:=end_ok h;subst e;refine ⟨rfl,?_⟩
    unfold fin endE at h;simp only at h
    split at h
    · assumption
    · split at h <;> cases h
theorem read_ok {s:ByteArray} {r:Rd} (h:read s = .ok r):∃ ts,lex s = .ok ts∧tokens ts ⟨[],[],[]⟩ = .ok r∧r.op=[]:=by
  cases hL:lex s with
  | error e =>
    unfold read at h;rw [hL] at h;obtain ⟨p,z⟩:=e;cases h
  | ok ts =>
    rw [read_fin hL] at h;obtain ⟨h1,h2⟩:=fin_ok h;exact ⟨ts,rfl,h1,h2⟩
theorem len_count:∀ (n:Nat) (l:List Nat),(∀ a∈l,a < n)→(∀ a,l.count a≤1)→l.length≤n:=by
  intro n;induction n with
  | zero =>
    intro l h _;cases l with
    | nil=>simp
    | cons a l=>exact absurd (h a (List.mem_cons_self ..)) (by omega)
  | succ n ih =>
    intro l h h1;have e:=List.length_eq_countP_add_countP (fun a=>a == n) (l:=l);have e2:l.countP (fun a=>a == n)≤1:=h1 n;have e3:(l.filter (fun a=>¬ (a == n)=true)).length≤n:=by
      refine ih _ (fun a ha=>?_) (fun a=>Nat.le_trans (List.Sublist.count_le a List.filter_sublist) (h1 a))
      obtain ⟨h2,h3⟩:=List.mem_filter.1 ha;have:=h a h2;simp at h3
      omega
    rw [← List.countP_eq_length_filter] at e3;have e4:l.countP (fun a=>decide (¬ (a == n)=true))=l.countP (fun a=>decide ¬(a == n)=true):=rfl;omega
theorem flat_count {row:List Nd} {x:Nd} (hx:x∈row) (a:Nat):x.l.count a≤(row.flatMap (·.l)).count a:=by
  induction row with
  | nil=>cases hx
  | cons y row ih =>
    rw [List.flatMap_cons,List.count_append]
    rcases List.mem_cons.1 hx with rfl | hx
    · omega
    · have:=ih hx;omega
theorem Inv.len {P:Nd→Prop} {Q:Pt→Prop} {row:List Nd} {tops:List Nat} {ps:List Pt} {l:List Nat} (h:Inv P Q row tops ps l):tops.length≤row.length∧∀ x∈row,x.l.length≤row.length:=by
  refine ⟨len_count _ _ (fun a ha=>h.lt (.inl ha)) (fun a=>?_),fun x hx=>len_count _ _ (fun a ha=>?_) (fun a=>?_)⟩
  · have:=h.one a;unfold cnt at this;split at this <;> omega
  · have h1:=h.one a;have h2:=flat_count hx a;have h3:=List.count_pos_iff.2 ha;unfold cnt at h1;split at h1
    · assumption
    · omega
  · have h1:=h.one a;have h2:=flat_count hx a;unfold cnt at h1;split at h1 <;> omega
theorem tokens_bd:∀ (ts:List Tk) {r r':Rd} {n:Nat},Bd r n→tokens ts r = .ok r'→Bd r' (n+2*ts.length):=by
  intro ts;induction ts with
  | nil=>intro r r' n h e;simp [tokens] at e;subst e;exact h.mono (by simp)
  | cons t ts ih =>
    intro r r' n h e;simp only [tokens] at e
    cases hT:token r t with
    | error z=>rw [hT] at e;cases e
    | ok r1 =>
      rw [hT] at e;exact (ih (token_bd h hT) e).mono (by simp;omega)
theorem inv_start (P:Nd→Prop) (Q:Pt→Prop):Inv P Q [] [] [] []:=⟨fun a=>by simp [cnt],fun k h=>by simp at h,by simp,by simp,by simp⟩
theorem read_inv {s:ByteArray} {r:Rd} {P:Nd→Prop} {Q:Pt→Prop} (hQ:∀ a b l l',Q ⟨a,b,l⟩→Q ⟨a,b,l'⟩) (hPQ:∀ p:Pt,Q p→∀ l,P ⟨4,p.at_,0,emp,l⟩) (h:read s = .ok r)
    (hb:∀ ts,lex s = .ok ts→∀ t∈ts,Brings P Q t):Inv P Q r.row r.tops [] []∧(r.row=[]∨r.tops.getLast? = some (r.row.length - 1)):=by
  obtain ⟨ts,h1,h2,h3⟩:=read_ok h;obtain ⟨h4,h5⟩:=tokens_inv hQ hPQ ts (r:=⟨[],[],[]⟩) (inv_start P Q) (fun _=>.inl rfl) (hb ts h1) h2;rw [h3] at h4;exact ⟨h4,h5 h3⟩
theorem lexL_all (s:ByteArray) (T:Tk→Prop) (hT:∀ (i:Nat) (h:i < s.size) kd n sv k,LX.step (s[i]::(bts s).drop (i+1)) = .tok kd n sv k→T ⟨kd,i,n,sv⟩):∀ (f i:Nat) (out ts:List Tk),s.size - i≤f→i≤s.size→(∀ t∈out,T t) →
    lexL ((bts s).drop i) i out = .ok ts→∀ t∈ts,T t:=by
  intro f;induction f with
  | zero =>
    intro i out ts hf hi ho h;rw [List.drop_eq_nil_of_le (by rw [size_bts];omega),lexL_nil] at h;injection h with h;subst h;exact ho
  | succ f ih =>
    intro i out ts hf hi ho h;by_cases hlt:i < s.size
    · have hR:=h;cases hst:LX.step (s[i]::(bts s).drop (i+1)) with
      | err e =>
        have:=LW.lex_err hlt hR hst;cases this
      | skip k =>
        have h2:=LW.lex_skip hlt hR hst;have hk:0 < k∧i+k≤s.size:=by
          refine ⟨?_,?_⟩
          · rcases step_adv s[i] ((bts s).drop (i+1)) with ⟨e,he⟩ | ⟨h1,_⟩
            · rw [hst] at he;cases he
            · rw [hst] at h1;exact h1
          · rcases LW.lex_fits hlt with ⟨e,he⟩ | h1
            · rw [hst] at he;cases he
            · rw [hst] at h1;exact h1
        exact ih (i+k) out ts (by omega) hk.2 ho h2
      | tok kd n sv k =>
        have h2:=LW.lex_tok hlt hR hst;have hk:0 < k∧i+k≤s.size:=by
          refine ⟨LW.step_pos hst,?_⟩
          rcases LW.lex_fits hlt with ⟨e,he⟩ | h1
          · rw [hst] at he;cases he
          · rw [hst] at h1;exact h1
        refine ih (i+k) _ ts (by omega) hk.2 (fun t ht=>?_) h2
        rcases List.mem_append.1 ht with ht | ht
        · exact ho t ht
        · have:t=⟨kd,i,n,sv⟩:=by simpa using ht
          subst this;exact hT i hlt kd n sv k hst
    · rw [List.drop_eq_nil_of_le (by rw [size_bts];omega),lexL_nil] at h;injection h with h;subst h;exact ho
theorem lex_all {s:ByteArray} {ts:List Tk} (T:Tk→Prop) (hT:∀ (i:Nat) (h:i < s.size) kd n sv k,LX.step (s[i]::(bts s).drop (i+1)) = .tok kd n sv k→T ⟨kd,i,n,sv⟩) (h:lex s = .ok ts):∀ t∈ts,T t:=by
  have h2:=(lex_len h).2;rw [lex_small h2] at h;exact lexL_all s T hT s.size 0 [] ts (by omega) (by omega) (by simp) h
theorem step_more {c:UInt8} {r:List UInt8} {kd n:Int} {sv:ByteArray} {k:Nat} (h:LX.step (c::r) = .tok kd n sv k):(kd=5→n=0∨n=1)∧(kd=4→c=45∨dig c=true):=by
  unfold LX.step at h;simp only at h
  split at h
  · cases h
  split at h
  · cases h
  split at h
  · injection h with e1 e2 e3 e4;subst e1;have:LX.mark c≤3:=by unfold LX.mark;split <;> (try split) <;> (try split) <;> omega
    exact ⟨fun e=>by omega,fun e=>by omega⟩
  split at h
  · split at h
    · injection h with e1 e2 e3 e4;exact ⟨fun _=>.inr e2.symm,fun e=>by omega⟩
    · split at h
      · injection h with e1 e2 e3 e4;exact ⟨fun _=>.inl e2.symm,fun e=>by omega⟩
      · cases h
  split at h
  · cases h
  · rename_i h5;unfold one at h;split at h
    · split at h
      · cases h
      · injection h with e1 e2 e3 e4;exact ⟨fun e=>by omega,fun e=>by omega⟩
    · rename_i hn;split at h
      · cases h
      · split at h
        · cases h
        · injection h with e1 e2 e3 e4;refine ⟨fun e=>by omega,fun _=>?_⟩
          have hlet:let_ c=true:=by simpa using h5
          have hw:word (c::r)=c::word r:=by unfold word;rw [List.takeWhile_cons,if_pos hlet]
          rw [hw] at hn;have hn2:number (c::word r)=true:=by simpa using hn
          unfold number unsign at hn2;by_cases h45:c=45
          · exact .inl h45
          · right
            simp only [if_neg h45] at hn2
            simp at hn2
            exact hn2.1
theorem brings {s:ByteArray} {ts:List Tk} (P:Nd→Prop) (Q:Pt→Prop) (h:lex s = .ok ts)
    (h4:∀ t,InT s t→t.kind=4→(∃ hh:t.at_.toNat < s.size,s[t.at_.toNat]=45∨dig s[t.at_.toNat]=true)→P ⟨1,t.at_,t.n,emp,[]⟩)
    (h5:∀ t,InT s t→t.kind=5→P ⟨2,t.at_,t.n,emp,[]⟩) (h6:∀ t,InT s t→t.kind=6→P ⟨3,t.at_,0,t.s,[]⟩)
    (h1:∀ t,InT s t→t.kind=1→∀ b l,Q ⟨t.at_,b,l⟩) (h3:∀ t,InT s t→t.kind=3→(∀ b l,Q ⟨t.at_,b,l⟩)∧P ⟨3,t.at_,0,quoteB,[]⟩):∀ t∈ts,Brings P Q t:=by
  intro t ht;have hin:=(lex_in_s h).1 t ht;have hm:=lex_all (fun t=>(t.kind=5→t.n=0∨t.n=1)∧(t.kind=4→∃ hh:t.at_.toNat < s.size,s[t.at_.toNat]=45∨dig s[t.at_.toNat]=true)) (fun i hi kd n sv k hst=>by
    obtain ⟨g1,g2⟩:=step_more hst;exact ⟨g1,fun e=>⟨by simpa using hi,by simpa using g2 e⟩⟩) h t ht
  exact ⟨hin.pos,fun e=>h4 t hin e (hm.2 e),fun e=>⟨hm.1 e,h5 t hin e⟩,h6 t hin,h1 t hin,h3 t hin⟩
theorem read_plain {s:ByteArray} {r:Rd} (h:read s = .ok r):Inv (fun x=>x.at_ < s.size) (fun p=>p.at_ < s.size) r.row r.tops [] []∧(r.row=[]∨r.tops.getLast? = some (r.row.length - 1)) :=
  read_inv (fun _ _ _ _ h=>h) (fun _ h _=>h) h (fun _ hl=>brings _ _ hl (fun _ hi _ _=>hi.lt) (fun _ hi _=>hi.lt) (fun _ hi _=>hi.lt) (fun _ hi _ _ _=>hi.lt) (fun _ hi _=>⟨fun _ _=>hi.lt,hi.lt⟩))
theorem read_sizes {s:ByteArray} {r:Rd} (h:read s = .ok r):r.row.length≤8000∧r.tops.length≤8000∧∀ x∈r.row,x.l.length≤8000:=by
  obtain ⟨ts,h1,h2,_⟩:=read_ok h;have hl:=lex_len h1;have:=tokens_bd ts (r:=⟨[],[],[]⟩) (n:=0) ⟨by simp,by simp,by simp⟩ h2;have h4:=this.sum;have h5:=this.tops;have h6:=(read_plain h).1.len.2;exact ⟨by omega,by omega,fun x hx=>by have:=h6 x hx;omega⟩
end RX
end Go.Proofs.YtehgmmbdlnginaaGreatDoor
namespace Go.Proofs.YtehgmmbdlnginaaGreatDoor
open Go.RowKit
namespace RM6
open LX RX RW6
section
variable {w0 w:World} {q:Nat} {rv tv ov:Value} {rs:List (Nd × Value)} {tops:List Nat} {os:List (Pt × Value)} {ex:List (Value × List Nat)}
theorem Rdr.done (h:Rdr w0 w q rv tv ov rs tops os []):Done w0 w rv tv rs tops :=
  ⟨h.far,h.row,⟨fun k hk=>h.kin.each k (by
    rcases List.mem_cons.1 hk with rfl | hk
    · exact List.mem_cons_self ..
    · exact List.mem_cons_of_mem _ (List.mem_append_left _ hk)),by
    have:=h.kin.apart;rw [List.pairwise_cons] at this ⊢;exact ⟨fun k hk=>this.1 k (List.mem_append_left _ hk),(List.pairwise_append.1 this.2).1⟩⟩⟩
theorem Has.start (w:World):Has w (w.alloc (.cells #[.slice none 0 0,.slice none 0 0,.slice none 0 0] 78)) w.heap.size ⟨[],[],[]⟩:=by
  refine ⟨.slice none 0 0,.slice none 0 0,.slice none 0 0,[],[],⟨(MM.Far.refl [] w).alloc _,Nat.le_refl _,MM.Row.new w 78 [.slice none 0 0,.slice none 0 0,.slice none 0 0],MO.none_ _ _ _ _,MO.none_ _ _ _ _,⟨fun k hk=>?_,by simp [kinsN,kinsP]⟩⟩,rfl,rfl⟩
  obtain rfl:k=(.slice none 0 0,[]):=by simpa [kinsN,kinsP] using hk
  exact MO.none_ _ _ _ _
def RdI (w0:World) (q:Nat) (ts:List Tk) (X:Except (Int × Int) Rd) (k:Nat) (wr:World):Prop:=∃ r,Has w0 wr q r∧Bd r (2*k)∧tokens (ts.drop k) r=X
set_option maxHeartbeats 4000000 in
set_option maxRecDepth 20000 in
theorem rread_any (s:ByteArray) (hs:s.size≤140737488355328) (w:World):Calls Tryz.prog 17 #[.string s] w (ReadQ w (RX.read s)):=by
  have HL:=Lib.hid (LW.rlex_q s hs);cases hR:LX.lex s with
  | error px =>
    obtain ⟨p,x⟩:=px;have de:=lex_errne hR;have de1:¬ (x=0):=by rwa [beq_eq_false_iff_ne] at de
    have de2:(x != 0)=true:=by simp [bne,de]
    have HE:Hid (RX.read s = .error ((p:Int),x)):=Lib.hid (by unfold RX.read;rw [hR]);rw [hR] at HL;clear hR;go_enter Tryz.func17,Tryz.ntmps17
    go_wp2_with (go_at_call 27;refine (HL.out _).mono ?_;rintro e w2 ⟨hF2,A1,c1,rfl,-⟩;have HF2:=Lib.hid hF2;clear hF2)
    refine bodyPost_ret (v:=.tuple #[.slice none 0 0,.slice none 0 0,.int .i64 p,.int .i64 x]) (by simp [results,Tryz.results17,go_sem]) rfl ?_
    rw [HE.out];exact ⟨rfl,HF2.out⟩
  | ok ts =>
    have hlen:=lex_len hR;have hin:=(lex_in_s hR).1;have hkd:∀ t∈ts,t.kind=1∨t.kind=2∨t.kind=3∨t.kind=4∨t.kind=5∨t.kind=6:=fun t ht=>(hin t ht).good.kind
    obtain ⟨n,hn⟩:∃ n,ts.length=n:=⟨_,rfl⟩
    have hn4:n≤4000:=by omega
    have HN:=Lib.hid hn;obtain ⟨X,hX⟩:∃ X,tokens ts ⟨[],[],[]⟩=X:=⟨_,rfl⟩
    have HE:Hid (RX.read s=fin X):=Lib.hid (by
      unfold RX.read;rw [hR];simp only
      rw [readT_fin hkd,hX])
    have HX:=Lib.hid hX;have HKD:=Lib.hid hkd;have HQE:Hid (∀ r,X = .ok r→TopOf ts.getLast? r.op):=Lib.hid (fun r e=>by
      have:=(tokens_q ts ⟨[],[],[]⟩ r none (by intro p hp;simp at hp) (by intro p hp;simp at hp) hkd (hX.trans e)).2;cases hg:ts.getLast? with
      | none=>rw [hg] at this;intro p hp u hu;cases hu
      | some v=>rw [hg] at this;simpa using this)
    rw [hR] at HL;unfold LW.LexQ at HL;simp only [hn] at HL
    clear hR hlen hin hkd hn hX;go_enter Tryz.func17,Tryz.ntmps17
    go_wp2_with (go_at_call 27;refine (HL.out _).mono ?_;rintro e w2 ⟨hF2,A1,c1,rfl,hc1,hc2,-,hs2⟩;have HF2:=Lib.hid hF2;have HT2:=Lib.hid (LW.TkRow.of_src hs2);have HST:=Lib.hid (Has.start w2);clear hF2 hs2)
    clear HL;have HSB:=Lib.hid (show RdI w2 w2.heap.size ts X 0 (w2.alloc (.cells #[.slice none 0 0,.slice none 0 0,.slice none 0 0] 78)) from ⟨⟨[],[],[]⟩,HST.out,⟨by simp,by simp,by simp⟩,HX.out⟩);clear HST HX;obtain ⟨q,hq⟩:∃ q,w2.heap.size=q:=⟨_,rfl⟩
    rw [hq] at HSB;rw [hq];go_wp2;clear hq
    go_loopw [10] (fun s10 wr=>∃ k:Nat,k≤n∧s10 = .int .i64 k∧Hid (RdI w2 q ts X k wr)) (fun s10 _=>n - (intOf s10).toNat)
    case atStart=>exact ⟨0,by omega,rfl,HSB⟩
    case round =>
      obtain ⟨k,hk,rfl,hI⟩:=hrel;obtain ⟨r,hH,hbd,hX⟩:=hI.out;clear hI HSB;by_cases hlt:k < n
      · have hk2:k < ts.length:=by rw [HN.out];exact hlt
        obtain ⟨b,o,rfl,hb,d0,d1,d2,d3⟩:=(HT2.out.far hH.far) k hk2;have htk:=HKD.out _ (List.getElem_mem hk2);rw [List.drop_eq_getElem_cons hk2] at hX;generalize ts[k]=t at *;have HC:=Lib.hid (token_any t htk r hH (hbd.mono (by omega)));have HFr:=Lib.hid hH.far;have HBD:=Lib.hid hbd;have HX:=Lib.hid hX;clear hk2 htk hH hbd hX;obtain ⟨Y,hY⟩:∃ Y,token r t=Y:=⟨_,rfl⟩
        rw [hY] at HC;cases Y with
        | error z =>
          have hz:=token_err hY;have de:(z == 0)=false:=by rw [beq_eq_false_iff_ne];omega
          have de1:¬ (z=0):=by omega
          have de2:(z != 0)=true:=by simp [bne,de]
          have HE2:Hid (RX.read s = .error (t.at_,z)):=Lib.hid (by
            rw [HE.out,← HX.out];simp only [tokens,hY,fin])
          clear hY hz
          go_wp2_with (go_at_call 28;refine HC.out.mono ?_;rintro e w4 ⟨rfl,hF4⟩;have y1:=(hF4.cell (p:=⟨b,o+k*4+1,none⟩) hb (by simp)).trans d1;have HF4:=Lib.hid hF4;clear hF4)
          go_quiet (fail)
          go_wp2;refine bodyPost_ret (v:=.tuple #[.slice none 0 0,.slice none 0 0,.int .i64 t.at_,.int .i64 z]) (by simp [results,Tryz.results17,go_sem]) rfl ?_
          rw [HE2.out];exact ⟨rfl,(((HF2.out.trans HFr.out (by simp)).trans HF4.out (by simp)).drewN _)⟩
        | ok R =>
          have HY:=Lib.hid hY;clear hY
          go_wp2_with (go_at_call 28;refine HC.out.mono ?_;rintro e w4 ⟨rfl,hH4⟩;have HH4:=Lib.hid hH4;clear hH4)
          go_roundw
          case rel=>exact ⟨k+1,by omega,by go_num,Lib.hid ⟨R,HH4.out,(token_bd HBD.out HY.out).mono (by omega),by rw [← HX.out];simp only [tokens,HY.out]⟩⟩
          case measure=>simp [intOf];omega
      · obtain rfl:k=n:=by omega
        rw [List.drop_of_length_le (by rw [HN.out];exact Nat.le_refl _)] at hX;simp only [tokens] at hX
        subst hX;have HTO:=Lib.hid (HQE.out r rfl);have HTR:=Lib.hid (HT2.out.far hH.far);obtain ⟨rv,tv,ov,rs,os,hR,hrs,hos⟩:=hH;obtain ⟨oA,oc,rfl⟩:=form_ _ hR.op;have c0:=hR.head.at (i:=0) rfl;have c1':=hR.head.at (i:=1) rfl;have c2':=hR.head.at (i:=2) rfl;have HR:=Lib.hid hR;have HRS:=Lib.hid hrs;by_cases ho:os.length=0
        · have HE2:Hid (RX.read s = .ok r):=Lib.hid (by
            have hop:r.op=[]:=by rw [← hos];exact List.length_eq_zero_iff.1 (by rw [List.length_map];exact ho)
            rw [HE.out];simp only [fin,endE,hop])
          have g1:decide ((0:Int) < (os.length:Int))=false:=by rw [decide_eq_false_iff_not];omega
          have g2:decide (0 < os.length)=false:=by rw [decide_eq_false_iff_not];omega
          have g3:¬ 0 < os.length:=by omega
          clear hR hrs hos ho hbd HQE HE;go_wp2;go_quiet (fail)
          go_wp2;refine bodyPost_ret (v:=.tuple #[rv,tv,.int .i64 0,.int .i64 0]) (by simp [results,Tryz.results17,go_sem]) rfl ?_
          rw [HE2.out];exact ⟨rv,tv,rs,rfl,(HR.out.done.from HF2.out).to ((MM.Far.refl [] wr).drewN _),HRS.out⟩
        · obtain ⟨⟨p,hp⟩,os1,rfl⟩:∃ z os1,os=z::os1:=by
            cases os with
            | nil=>exact absurd rfl ho
            | cons z l=>exact ⟨z,l,rfl⟩
          obtain ⟨og,oc2,e,cA,cQ,cL,hfz,hog,hog0⟩:=open_at HR.out;injection e with e1 e2 e3;subst e1 e3;have hop:r.op=p::os1.map (·.1):=by rw [← hos,List.map_cons]
          have hos1:os1.length≤20000:=by have:=hbd.sum;rw [hop,List.length_cons,List.length_map] at this;omega
          rw [List.length_cons] at c2';have g1:decide ((0:Int) < ((os1.length:Nat):Int)+1)=true:=by rw [decide_eq_true_iff];omega
          have hk0:0 < k:=by
            rcases Nat.eq_zero_or_pos k with h0 | h0
            · have:=hbd.sum;rw [hop,List.length_cons] at this;omega
            · exact h0
          obtain ⟨k1,hk1⟩:∃ k1,k=k1+1:=⟨k - 1,by omega⟩
          subst hk1;have hk2:k1 < ts.length:=by rw [HN.out];omega
          obtain ⟨b,o,rfl,hb,d0,d1,d2,d3⟩:=HTR.out k1 hk2;have hg:ts.getLast? = some ts[k1]:=by
            rw [List.getLast?_eq_getElem?,HN.out];exact List.getElem?_eq_getElem hk2
          have hto:=HTO.out p (by rw [hop];rfl) ts[k1] hg;have HE2:Hid (RX.read s=if p.q=true then .error (p.at_,63) else .error (p.at_,60)):=Lib.hid (by
            rw [HE.out];simp only [fin,endE,hop])
          have hk1':(k1:Int) < (k1:Int)+1:=by omega
          have hw1:IntKind.i64.wrap ((os1.length:Nat):Int)=(os1.length:Int):=IntWalk.i64_in _ (by omega);have hw2:IntKind.i64.wrap ((k1:Nat):Int)=(k1:Int):=IntWalk.i64_in _ (by omega);have ho1:(os1.length:Int) < (os1.length:Int)+1:=by omega
          generalize ts[k1]=v at *;have HTO2:=Lib.hid hto;clear hR hrs hos ho hbd HQE HE hop hg hto HTO HTR e2
          rcases HTO2.out with ⟨q1,q2,q3⟩ | ⟨q1,q2⟩
          · have de:(v.kind == 3)=true:=by simp [q2]
            rw [q1,if_pos rfl] at HE2;have HQ3:=Lib.hid q3;clear q1 q2 q3 HTO2;go_wp2;go_quiet (fail)
            go_wp2;refine bodyPost_ret (v:=.tuple #[.slice none 0 0,.slice none 0 0,.int .i64 v.at_,.int .i64 63]) (by simp [results,Tryz.results17,go_sem]) rfl ?_
            rw [HE2.out,← HQ3.out];exact ⟨rfl,(HF2.out.trans HR.out.far (by simp)).drewN _⟩
          · have de:(v.kind == 3)=false:=by rw [beq_eq_false_iff_ne];exact q2
            rw [q1,if_neg (by decide)] at HE2;clear q1 q2 HTO2;go_wp2;go_quiet (fail)
            go_wp2;refine bodyPost_ret (v:=.tuple #[.slice none 0 0,.slice none 0 0,.int .i64 p.at_,.int .i64 60]) (by simp [results,Tryz.results17,go_sem]) rfl ?_
            rw [HE2.out];exact ⟨rfl,(HF2.out.trans HR.out.far (by simp)).drewN _⟩
end
end RM6
end Go.Proofs.YtehgmmbdlnginaaGreatDoor
namespace Go.Proofs.YtehgmmbdlnginaaGreatDoor
open Go.RowKit
namespace RX
open LX
end RX
namespace RW6
open LX RX
end RW6
end Go.Proofs.YtehgmmbdlnginaaGreatDoor
namespace Go.Proofs.YtehgmmbdlnginaaGreatDoor
open Go.RowKit
namespace RX
open LX
structure Ni where
  kind:Int
  at_:Int
  n:Int
  s:ByteArray
  l:List Int
def okF (kd at_ n:Int) (s:ByteArray) (len:Nat):Bool :=
  if at_ < 0 then false
  else if kd=1 then decide (s.size=0) && decide (len=0)
  else if kd=2 then decide (n=0∨n=1) && decide (s.size=0) && decide (len=0)
  else if kd=3 then decide (n=0) && decide (len=0)
  else if kd=4 then decide (n=0) && decide (s.size=0)
  else false
def takeL (i:Nat):List Int→List Bool→Option (List Bool)
  | [],tk=>some tk
  | p::l,tk=>if p < 0∨(i:Int)≤p then none else if tk.getD p.toNat false=true then none else takeL i l (tk.set p.toNat true)
def mayG:List Ni→Nat→List Bool→Bool
  | [],_,_=>true
  | x::xs,i,tk=>if okF x.kind x.at_ x.n x.s x.l.length=false then false else match takeL i x.l tk with
    | none=>false
    | some tk=>mayG xs (i+1) tk
def may (xs:List Ni):Bool:=mayG xs 0 (List.replicate xs.length false)
theorem takeL_len:∀ (l:List Int) (i:Nat) (tk tk':List Bool),takeL i l tk=some tk'→tk'.length=tk.length:=by
  intro l;induction l with
  | nil=>intro i tk tk' h;simp [takeL] at h;rw [h]
  | cons p l ih =>
    intro i tk tk' h;unfold takeL at h;split at h
    · cases h
    · split at h
      · cases h
      · rw [ih _ _ _ h,List.length_set]
def toI (x:Nd):Ni:=⟨x.kind,x.at_,x.n,x.s,x.l.map (fun p:Nat=>(p:Int))⟩
theorem takeL_ok:∀ (l:List Nat) (i:Nat) (tk:List Bool),i≤tk.length→(∀ p∈l,p < i)→(∀ p∈l,tk.getD p false=false)→l.Nodup→∃ tk',takeL i (l.map (fun p:Nat=>(p:Int))) tk=some tk'∧(∀ a,tk'.getD a false=true→tk.getD a false=true∨a∈l):=by
  intro l;induction l with
  | nil=>intro i tk _ _ _ _;exact ⟨tk,rfl,fun a h=>.inl h⟩
  | cons p l ih =>
    intro i tk hi hlt hfree hnd;have hp:=hlt p (List.mem_cons_self ..);have hn:=List.nodup_cons.1 hnd;rw [List.map_cons];unfold takeL;rw [if_neg (by omega)];have hf:=hfree p (List.mem_cons_self ..);rw [Int.toNat_natCast,if_neg (by rw [hf];simp)];obtain ⟨tk',h1,h2⟩:=ih i (tk.set p true) (by rw [List.length_set];exact hi) (fun q hq=>hlt q (List.mem_cons_of_mem _ hq)) (fun q hq=>by
      have hne:p≠q:=fun e=>hn.1 (e ▸ hq)
      rw [List.getD_eq_getElem?_getD,List.getElem?_set_ne hne,← List.getD_eq_getElem?_getD];exact hfree q (List.mem_cons_of_mem _ hq)) hn.2
    refine ⟨tk',h1,fun a ha=>?_⟩
    rcases h2 a ha with h | h
    · by_cases e:p=a
      · subst e;exact .inr (List.mem_cons_self ..)
      · rw [List.getD_eq_getElem?_getD,List.getElem?_set_ne e,← List.getD_eq_getElem?_getD] at h;exact .inl h
    · exact .inr (List.mem_cons_of_mem _ h)
theorem mayG_ok:∀ (xs:List Nd) (i:Nat) (tk:List Bool),i+xs.length≤tk.length→(∀ (k:Nat) (h:k < xs.length),∀ p∈xs[k].l,p < i+k)→(∀ x∈xs,GoodN x)→(∀ a,tk.getD a false=true→(xs.flatMap (·.l)).count a=0) →
    (∀ a,(xs.flatMap (·.l)).count a≤1)→mayG (xs.map toI) i tk=true:=by
  intro xs;induction xs with
  | nil=>intro i tk _ _ _ _ _;rfl
  | cons x xs ih =>
    intro i tk hlen hb hg hf h1;rw [List.map_cons];unfold mayG;have hgx:=hg x (List.mem_cons_self ..);have hok:okF (toI x).kind (toI x).at_ (toI x).n (toI x).s (toI x).l.length=true:=by
      obtain ⟨h0,hc⟩:=hgx;unfold okF toI;simp only [List.length_map]
      rw [if_neg (by omega)]
      rcases hc with ⟨e1,e2,e3⟩ | ⟨e1,e2,e3,e4⟩ | ⟨e1,e2,e3⟩ | ⟨e1,e2,e3⟩
      · simp [e1,e2,e3];rfl
      · simp [e1,e2,e3,e4];rfl
      · simp [e1,e2,e3]
      · simp [e1,e2,e3];rfl
    rw [if_neg (by rw [hok];simp)];have hcx:∀ a,x.l.count a≤1:=fun a=>by
      have:=h1 a;rw [List.flatMap_cons,List.count_append] at this;omega
    have hnd:x.l.Nodup:=List.nodup_iff_count.2 hcx;obtain ⟨tk',e,h2⟩:=takeL_ok x.l i tk (by simp at hlen;omega) (fun p hp=>by have:=hb 0 (by simp) p hp;simpa using this) (fun p hp=>by
      cases hc:tk.getD p false with
      | false=>rfl
      | true =>
        have:=hf p hc;rw [List.flatMap_cons,List.count_append] at this;have:=List.count_pos_iff.2 hp;omega) hnd
    have e':takeL i (toI x).l tk=some tk':=e;rw [e'];simp only []
    refine ih (i+1) tk' (by rw [takeL_len _ _ _ _ e];simp only [List.length_cons] at hlen;omega) (fun k hk p hp=>?_) (fun y hy=>hg y (List.mem_cons_of_mem _ hy)) (fun a ha=>?_) (fun a=>?_)
    · have:=hb (k+1) (by simpa using hk) p (by simpa using hp);omega
    · have h1a:=h1 a;rw [List.flatMap_cons,List.count_append] at h1a
      rcases h2 a ha with h | h
      · have:=hf a h;rw [List.flatMap_cons,List.count_append] at this;omega
      · have:=List.count_pos_iff.2 h;omega
    · have:=h1 a;rw [List.flatMap_cons,List.count_append] at this;omega
theorem read_may {s:ByteArray} {r:Rd} (h:read s = .ok r):may (r.row.map toI)=true:=by
  have hI:=(read_plain h).1;unfold may;refine mayG_ok r.row 0 _ (by simp) (fun k hk p hp=>by have:=hI.below k hk p hp;omega) (fun x hx=>(hI.good x hx).1) (fun a ha=>?_) (fun a=>?_)
  · rw [List.getD_eq_getElem?_getD,List.getElem?_replicate] at ha;split at ha <;> simp at ha
  · have:=hI.one a;unfold cnt at this;split at this <;> omega
end RX
namespace RW6
open LX RX RM6
theorem size_zero {s:ByteArray} (h:s.size=0):s=⟨#[]⟩:=by
  apply ByteArray.ext
  apply Array.toList_inj.1
  exact List.eq_nil_of_length_eq_zero (by rw [Array.length_toList];exact h)
theorem toList_ne {s:ByteArray} (h:s.size≠0):¬ s.toList=[]:=by
  rw [Lib.toList_data];intro e;have:=congrArg List.length e;rw [Array.length_toList] at this;exact h this
end RW6
end Go.Proofs.YtehgmmbdlnginaaGreatDoor
namespace Go.Proofs.YtehgmmbdlnginaaGreatDoor
open Go.RowKit
set_option linter.unusedVariables false
namespace RW6
open LX RX RM6
def IRow (w:World) (S:List Nat) (A:Option Addr) (l:List Int):Prop :=
  ∀ (k:Nat) (h:k < l.length),∃ b o,A=some ⟨b,o,none⟩∧b∉S∧b < w.heap.size∧w.cell? ⟨b,o+k,none⟩=some (.int .i64 l[k])
theorem IRow.far {w w':World} {S:List Nat} {A:Option Addr} {l:List Int} (h:IRow w S A l) (f:MM.Far S w w'):IRow w' S A l:=by
  intro k hk;obtain ⟨b,o,e,hS,hb,c⟩:=h k hk;exact ⟨b,o,e,hS,Nat.lt_of_lt_of_le hb f.size,(f.cell (p:=⟨b,o+k,none⟩) hb hS).trans c⟩
theorem IRow.of_int {w:World} {A:Option Addr} {l:List Nat} (h:IntRow w A l):IRow w [] A (l.map (fun p:Nat=>(p:Int))):=by
  intro k hk;obtain ⟨b,o,e,hb,c⟩:=h k (by simpa using hk);exact ⟨b,o,e,by simp,hb,by rw [c];simp⟩
theorem IRow.new {w w':World} {S:List Nat} {A:Option Addr} {l:List Int} (h:IRow w S A l) (f:MM.Far S w w') (b:Nat) (hb:w.heap.size≤b):IRow w' (b::S) A l:=by
  intro k hk;obtain ⟨b2,o,e,hS,hb2,c⟩:=h k hk;exact ⟨b2,o,e,by simp only [List.mem_cons,not_or];exact ⟨by omega,hS⟩,Nat.lt_of_lt_of_le hb2 f.size,(f.cell (p:=⟨b2,o+k,none⟩) hb2 hS).trans c⟩
def bools (tk:List Bool):List Value:=tk.map .bool
theorem bools_at {tk:List Bool} {k:Nat} (h:k < tk.length):(bools tk)[k]? = some (.bool tk[k]):=by unfold bools;rw [List.getElem?_map,List.getElem?_eq_getElem h];rfl
theorem bools_set (tk:List Bool) (k:Nat) (b:Bool):(bools tk).set k (.bool b)=bools (tk.set k b):=by unfold bools;rw [List.map_set]
def TakeI (w:World) (tb i:Nat) (l:List Int) (tk:List Bool) (R:Option (List Bool)) (j:Nat) (wr:World):Prop :=
  ∃ tj,MM.Row wr tb 4 (bools tj)∧MM.Far [tb] w wr∧tj.length=tk.length∧takeL i (l.drop j) tj=R
def NiRow (w:World) (S:List Nat) (A:Option Addr) (ns:List Ni):Prop :=
  ∀ (k:Nat) (h:k < ns.length),∃ b o LA c,A=some ⟨b,o,none⟩∧b∉S∧b < w.heap.size∧w.cell? ⟨b,o+k*5,none⟩=some (.int .u8 ns[k].kind)∧w.cell? ⟨b,o+k*5+1,none⟩=some (.int .i64 ns[k].at_) ∧
    w.cell? ⟨b,o+k*5+2,none⟩=some (.int .i64 ns[k].n)∧w.cell? ⟨b,o+k*5+3,none⟩=some (.string ns[k].s)∧w.cell? ⟨b,o+k*5+4,none⟩=some (.slice LA ns[k].l.length c)∧IRow w S LA ns[k].l
theorem NiRow.far {w w':World} {S:List Nat} {A:Option Addr} {ns:List Ni} (h:NiRow w S A ns) (f:MM.Far S w w'):NiRow w' S A ns:=by
  intro k hk;obtain ⟨b,o,LA,c,e,hS,hb,c0,c1,c2,c3,c4,hI⟩:=h k hk;have g (x:Nat):w'.cell? ⟨b,x,none⟩=w.cell? ⟨b,x,none⟩:=f.cell (p:=⟨b,x,none⟩) hb hS;exact ⟨b,o,LA,c,e,hS,Nat.lt_of_lt_of_le hb f.size,(g _).trans c0,(g _).trans c1,(g _).trans c2,(g _).trans c3,(g _).trans c4,hI.far f⟩
theorem NiRow.new {w w':World} {S:List Nat} {A:Option Addr} {ns:List Ni} (h:NiRow w S A ns) (f:MM.Far S w w') (b:Nat) (hb:w.heap.size≤b):NiRow w' (b::S) A ns:=by
  intro k hk;obtain ⟨b2,o,LA,c,e,hS,hb2,c0,c1,c2,c3,c4,hI⟩:=h k hk;have g (x:Nat):w'.cell? ⟨b2,x,none⟩=w.cell? ⟨b2,x,none⟩:=f.cell (p:=⟨b2,x,none⟩) hb2 hS;exact ⟨b2,o,LA,c,e,by simp only [List.mem_cons,not_or];exact ⟨by omega,hS⟩,Nat.lt_of_lt_of_le hb2 f.size,(g _).trans c0,(g _).trans c1,(g _).trans c2,(g _).trans c3,(g _).trans c4,hI.new f b hb⟩
theorem NiRow.of_nd {w:World} {A:Option Addr} {ns:List Nd} (h:NdRow w A ns):NiRow w [] A (ns.map toI):=by
  intro k hk;obtain ⟨b,o,LA,c,e,hb,c0,c1,c2,c3,c4,hI⟩:=h k (by simpa using hk);refine ⟨b,o,LA,c,e,by simp,hb,?_,?_,?_,?_,?_,?_⟩
  · rw [c0];simp [toI]
  · rw [c1];simp [toI]
  · rw [c2];simp [toI]
  · rw [c3];simp [toI]
  · rw [c4];simp [toI]
  · have:=IRow.of_int hI;rw [List.getElem_map];exact this
theorem made_list (z:Value) (n:Nat):madeCells #[z] n=(List.replicate n z).toArray:=by
  apply Array.ext
  · simp [size_madeCells]
  · intro i h1 h2;simp [madeCells,Nat.mod_one]
theorem bools_slice:Tryz.prog.underlying 94=some (.slice 4):=by kernel_rfl
theorem bool_info:(Tryz.prog.info? 4).map (fun i=>(i.zero,i.size,i.bytes))=some (some (.bool false),1,1):=by kernel_rfl
theorem bools_rep (n:Nat):bools (List.replicate n false)=List.replicate n (.bool false):=by simp [bools]
theorem far_cell {w w':World} {p:Addr} {v:Value} (hF:MM.Far [] w w') (h:w.cell? p=some v):w'.cell? p=some v:=(hF.cell (World.block_lt_of_cell? w _ h) (by simp)).trans h
theorem far_dtS {S:List Nat} {tb:Nat} {a w w2 w':World} (h:MM.Far S a w) (hF:MM.Far [tb] w2 w') (e:w2=w.drew∨w2=w) (hS:tb < a.heap.size→tb∈S):MM.Far S a w':=by
  have hh:∀ b,b∈[tb]→b < a.heap.size→b∈S:=fun b hb hl=>by
    have e:b=tb:=by simpa using hb
    subst e;exact hS hl
  rcases e with rfl | rfl
  · exact h.drew.trans hF hh
  · exact h.trans hF hh
theorem far_cell_at {S:List Nat} {w w':World} {p:Addr} {v:Value} (hF:MM.Far S w w') (hn:p.block∉S) (h:w.cell? p=some v):w'.cell? p=some v:=(hF.cell (World.block_lt_of_cell? w _ h) hn).trans h
def MayI (w:World) (tb:Nat) (ns:List Ni) (R:Bool) (k:Nat) (wr:World):Prop :=
  ∃ tk,MM.Row wr tb 4 (bools tk)∧MM.Far [] w wr∧tk.length=ns.length∧mayG (ns.drop k) k tk=R
end RW6
end Go.Proofs.YtehgmmbdlnginaaGreatDoor
