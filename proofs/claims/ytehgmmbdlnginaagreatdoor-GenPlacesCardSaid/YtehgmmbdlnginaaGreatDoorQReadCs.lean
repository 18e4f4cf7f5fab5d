/-
  Several texts in one: LexCodes,LexMids,ReadCs.
-/
import Derived.Test.YtehgmmbdlnginaaGreatDoorQLexRefs
import Derived.Test.YtehgmmbdlnginaaGreatDoorQCodePlain
import Derived.Test.YtehgmmbdlnginaaGreatDoorQLexPure
import Derived.Test.YtehgmmbdlnginaaGreatDoorQReadMems
import Derived.Test.YtehgmmbdlnginaaGreatDoorQReadPuts
import Derived.Lib.Bytealg
import Derived.Lib.IndexAny
import Derived.Lib.IndexLaws
import Derived.Laws.Runes
import Derived.Laws.RangeAny
import Derived.Lib.OthersKept
import Derived.Lib.Walk
import Derived.Deep.QuietTactic
import Derived.BigQuiet
import Derived.WalkMore
import Derived.IntWalk
import Derived.Lib.ConvBytes
import Derived.Laws.IdiomStrings
import Derived.Maps.OwnOps
import Derived.Maps.Views
import Derived.Maps.StringElems
import Derived.Carry
import Derived.Deep.LoopGhost
namespace Go.Proofs.YtehgmmbdlnginaaGreatDoor
open Go.RowKit
namespace LW
open LX
end LW
end Go.Proofs.YtehgmmbdlnginaaGreatDoor
namespace Go.Proofs.YtehgmmbdlnginaaGreatDoor
open Go.RowKit
namespace LW
open LX
end LW
end Go.Proofs.YtehgmmbdlnginaaGreatDoor
namespace Go.Proofs.YtehgmmbdlnginaaGreatDoor
open Go.RowKit
namespace LW
open LX
end LW
end Go.Proofs.YtehgmmbdlnginaaGreatDoor
namespace Go.Proofs.YtehgmmbdlnginaaGreatDoor
open Go.RowKit
namespace LW
open LX
theorem mark_yes {c:UInt8} (h:LX.mark c≠0):c=40∨c=41∨c=39:=by
  unfold LX.mark at h;by_cases h1:c=40
  · exact .inl h1
  · by_cases h2:c=41
    · exact .inr (.inl h2)
    · by_cases h3:c=39
      · exact .inr (.inr h3)
      · rw [if_neg h1,if_neg h2,if_neg h3] at h;exact absurd rfl h
end LW
end Go.Proofs.YtehgmmbdlnginaaGreatDoor
namespace Go.Proofs.YtehgmmbdlnginaaGreatDoor
open Go.RowKit
namespace LW
open LX
theorem step_pos {c:UInt8} {r:List UInt8} {kd n:Int} {sv:ByteArray} {k:Nat} (h:LX.step (c::r) = .tok kd n sv k):0 < k:=by
  rcases step_adv c r with ⟨e,he⟩ | ⟨h1,_⟩
  · rw [h] at he;cases he
  · rw [h] at h1;exact h1
end LW
end Go.Proofs.YtehgmmbdlnginaaGreatDoor
namespace Go.Proofs.YtehgmmbdlnginaaGreatDoor
open Go.RowKit
namespace LX
theorem lexF_len (f:Nat):∀ (l:List UInt8) (a:Nat) (out ts:List Tk),lexF f l a out = .ok ts→ts.length≤out.length+f:=by
  induction f with
  | zero=>intro l a out ts h;simp [lexF] at h;subst h;omega
  | succ f ih =>
    intro l a out ts h;cases l with
    | nil=>simp [lexF] at h;subst h;omega
    | cons c r =>
      simp only [lexF] at h
      cases hs:step (c::r) with
      | err e=>rw [hs] at h;cases h
      | skip k=>rw [hs] at h;have:=ih _ _ _ _ h;omega
      | tok kd n s k=>rw [hs] at h;have:=ih _ _ _ _ h;simp at this;omega
theorem lex_len {s:ByteArray} {ts:List Tk} (h:lex s = .ok ts):ts.length≤s.size∧s.size≤4000:=by
  unfold lex at h;split at h
  · cases h
  · have:=lexF_len _ _ _ _ _ h;have e:(bts s).length=s.size:=by unfold bts;rw [Array.length_toList];rfl
    simp at this
    omega
end LX
namespace LW
open LX
end LW
end Go.Proofs.YtehgmmbdlnginaaGreatDoor
namespace Go.Proofs.YtehgmmbdlnginaaGreatDoor
open Go.RowKit
namespace LX
theorem step_errne {c:UInt8} {r:List UInt8} {e:Int} (h:step (c::r) = .err e):(e == 0)=false:=by
  have h50:((50:Int) == 0)=false:=rfl;unfold step at h;simp only at h
  split at h
  · cases h
  split at h
  · cases h
  split at h
  · cases h
  split at h
  · split at h
    · cases h
    split at h
    · cases h
    · cases h;rfl
  split at h
  · cases h;rfl
  unfold one at h;split at h
  · split at h
    · cases h;rfl
    · cases h
  · split at h
    · cases h;rfl
    · split at h
      · cases h;rfl
      · cases h
theorem lexL_errne:∀ (n:Nat) (l:List UInt8) (p:Nat) (out:List Tk) (q:Nat) (e:Int),l.length≤n→lexL l p out = .error (q,e)→(e == 0)=false:=by
  intro n;induction n with
  | zero =>
    intro l p out q e h hl;have:l=[]:=List.eq_nil_of_length_eq_zero (by omega);subst this;cases hl
  | succ n ih =>
    intro l p out q e h hl;cases l with
    | nil=>cases hl
    | cons c r =>
      rw [lexL_step] at hl;simp only [List.length_cons] at h
      cases hs:step (c::r) with
      | err e=>rw [hs] at hl;cases hl;exact step_errne hs
      | skip k =>
        obtain ⟨h1,h2⟩:=adv_le hs (by intro e he;cases he);simp only [adv] at h1 h2
        rw [hs] at hl;exact ih _ _ _ _ _ (by rw [List.length_drop,List.length_cons];omega) hl
      | tok kd n s k =>
        obtain ⟨h1,h2⟩:=adv_le hs (by intro e he;cases he);simp only [adv] at h1 h2
        rw [hs] at hl;exact ih _ _ _ _ _ (by rw [List.length_drop,List.length_cons];omega) hl
theorem lex_errne {s:ByteArray} {p:Nat} {e:Int} (h:lex s = .error (p,e)):(e == 0)=false:=by
  unfold lex at h;split at h
  · cases h;rfl
  · exact lexL_errne _ _ _ _ _ _ (Nat.le_refl _) h
theorem size_bts (s:ByteArray):(bts s).length=s.size:=by unfold bts;rw [Array.length_toList];rfl
theorem lex_small {s:ByteArray} (h:s.size≤4000):lex s=lexL (bts s) 0 []:=by unfold lex;rw [if_neg (by omega)]
end LX
namespace LW
open LX
end LW
end Go.Proofs.YtehgmmbdlnginaaGreatDoor
namespace Go.Proofs.YtehgmmbdlnginaaGreatDoor
open Go.RowKit
namespace LX
end LX
namespace LW
open LX
end LW
end Go.Proofs.YtehgmmbdlnginaaGreatDoor
namespace Go.Proofs.YtehgmmbdlnginaaGreatDoor
open Go.RowKit
namespace LX
end LX
end Go.Proofs.YtehgmmbdlnginaaGreatDoor
namespace Go.Proofs.YtehgmmbdlnginaaGreatDoor
open Go.RowKit
namespace LX
theorem let_apart {c:UInt8} (h:let_ c=true):blank c=false∧c≠59∧mark c=0∧c≠35:=by
  have:∀ n:Fin 256,let_ (UInt8.ofNat n.1)=true→(blank (UInt8.ofNat n.1)=false∧UInt8.ofNat n.1≠59∧mark (UInt8.ofNat n.1)=0∧UInt8.ofNat n.1≠35):=by decide +kernel
  have h2:=this ⟨c.toNat,c.toNat_lt⟩;simp only [UInt8.ofNat_toNat] at h2
  exact h2 h
theorem word_all {l:List UInt8} (h:l.all let_=true):word l=l:=by
  unfold word;induction l with
  | nil=>rfl
  | cons c r ih =>
    rw [List.all_cons,Bool.and_eq_true] at h;rw [List.takeWhile_cons,if_pos h.1,ih h.2]
end LX
end Go.Proofs.YtehgmmbdlnginaaGreatDoor
namespace Go.Proofs.YtehgmmbdlnginaaGreatDoor
open Go.RowKit
namespace LX
end LX
namespace LW
open LX
end LW
end Go.Proofs.YtehgmmbdlnginaaGreatDoor
namespace Go.Proofs.YtehgmmbdlnginaaGreatDoor
open Go.RowKit
namespace LX
def dgc (n:Nat):UInt8:=UInt8.ofNat (48+n)
def dgN:Nat→Nat→List UInt8
  | 0,n=>[dgc n]
  | f+1,n=>if 9 < n then dgN f (n / 10)++[dgc (n % 10)] else [dgc n]
def dgs (n:Int):List UInt8:=if n < 0 then 45::dgN 20 (-n).toNat else dgN 20 n.toNat
theorem dg_dig {n:Nat} (h:n≤9):dig (dgc n)=true∧((dgc n).toNat:Int)=48+(n:Int):=by
  have e:(dgc n).toNat=48+n:=by unfold dgc;simp;omega
  refine ⟨by unfold dig;rw [e];simp;omega,by rw [e];omega⟩
theorem dgN_ok:∀ (f n k:Nat),n < 10 ^ (f+1)→n < 10 ^ (k+1)→(dgN f n).all dig=true∧val (dgN f n)=(n:Int)∧dgN f n≠[]∧(dgN f n).length≤k+1:=by
  intro f;induction f with
  | zero =>
    intro n k h _;have h9:n≤9:=by simp at h;omega
    obtain ⟨a,b⟩:=dg_dig h9;refine ⟨by simp [dgN,a],?_,by simp [dgN],by simp [dgN]⟩
    unfold dgN val;simp only [List.foldl_cons,List.foldl_nil]
    omega
  | succ f ih =>
    intro n k h hk;unfold dgN;by_cases h9:9 < n
    · rw [if_pos h9];have hk0:1≤k:=by
        rcases Nat.eq_zero_or_pos k with h0 | h0
        · rw [h0] at hk;simp at hk;omega
        · exact h0
      obtain ⟨k',rfl⟩:∃ k',k=k'+1:=⟨k - 1,by omega⟩
      obtain ⟨i1,i2,i3,i4⟩:=ih (n / 10) k' (by rw [Nat.pow_succ] at h;omega) (by rw [Nat.pow_succ] at hk;omega);obtain ⟨a,b⟩:=dg_dig (show n % 10≤9 by omega);refine ⟨?_,?_,by simp,?_⟩
      · rw [List.all_append,i1];simp [a]
      · rw [val_snoc,i2,b];omega
      · rw [List.length_append];simp;omega
    · rw [if_neg h9];obtain ⟨a,b⟩:=dg_dig (show n≤9 by omega);refine ⟨by simp [a],?_,by simp,by simp⟩
      unfold val;simp only [List.foldl_cons,List.foldl_nil]
      omega
theorem dgN_snoc (f n:Nat) (h:9 < n):dgN (f+1) n=dgN f (n / 10)++[dgc (n % 10)]:=by
  rw [dgN,if_pos h]
theorem dgN_few (f n:Nat) (h:¬ 9 < n):dgN f n=[dgc n]:=by
  cases f with
  | zero=>rfl
  | succ f=>rw [dgN,if_neg h]
def tkB (t:Tk):ByteArray :=
  if t.kind=1 then ⟨#[40]⟩ else if t.kind=2 then ⟨#[41]⟩ else if t.kind=3 then ⟨#[39]⟩ else if t.kind=4 then str (dgs t.n)
  else if t.kind=5 then (if t.n=1 then ⟨#[35,116]⟩ else ⟨#[35,102]⟩) else t.s
end LX
namespace LW
open LX
theorem pow21 {n:Nat} (h:n < 4398046511104):n < 10 ^ (20+1):=Nat.lt_of_lt_of_le h (by decide)
end LW
end Go.Proofs.YtehgmmbdlnginaaGreatDoor
namespace Go.Proofs.YtehgmmbdlnginaaGreatDoor
open Go.RowKit
namespace LX
structure GoodT (t:Tk):Prop where
  kind:t.kind=1∨t.kind=2∨t.kind=3∨t.kind=4∨t.kind=5∨t.kind=6
  lo : -1099511627776 < t.n
  hi:t.n < 1099511627776
  size:(tkB t).size≤32
  back:∀ (rest:List UInt8) (p:Nat) (out:List Tk),lexL (bts (tkB t)++32::rest) p out=lexL rest (p+(tkB t).size+1) (out++[⟨t.kind,p,t.n,t.s⟩])
theorem lexL_blank (rest:List UInt8) (p:Nat) (out:List Tk):lexL (32::rest) p out=lexL rest (p+1) out:=by
  rw [lexL_step,step_blank (by decide)];rfl
theorem word_blank {w:List UInt8} {kd n:Int} {sv:ByteArray} {k:Nat} (ha:w.all let_=true) (h0:w≠[]) (h1:one w = .tok kd n sv k) (rest:List UInt8) (p:Nat) (out:List Tk) :
    lexL (w++32::rest) p out=lexL rest (p+w.length+1) (out++[⟨kd,p,n,sv⟩]):=by
  cases w with
  | nil=>exact absurd rfl h0
  | cons c r =>
    have hc:let_ c=true:=by rw [List.all_cons,Bool.and_eq_true] at ha;exact ha.1
    obtain ⟨a1,a2,a3,a4⟩:=let_apart hc;have hw:word (c::(r++32::rest))=c::r:=by
      rw [← List.cons_append,word_app _ _ _ (by decide),word_all ha]
    have hk:=one_k h1;subst hk;rw [List.cons_append,lexL_step,step_one a1 a2 a3 a4 hc,hw,h1];simp only
    rw [← List.cons_append,List.drop_left,lexL_blank]
theorem mark_blank {c:UInt8} (h:mark c≠0) (rest:List UInt8) (p:Nat) (out:List Tk):lexL (c::32::rest) p out=lexL rest (p+1+1) (out++[⟨mark c,p,0,emp⟩]):=by
  have h1:blank c=false∧c≠59:=by
    rcases LW.mark_yes h with rfl | rfl | rfl <;> decide
  rw [lexL_step,step_mark h1.1 h1.2 h];simp only [List.drop_succ_cons,List.drop_zero]
  exact lexL_blank _ _ _
theorem bool_blank (c:UInt8) (n:Int) (h:(c=116∧n=1)∨(c=102∧n=0)) (rest:List UInt8) (p:Nat) (out:List Tk):lexL (35::c::32::rest) p out=lexL rest (p+2+1) (out++[⟨5,p,n,emp⟩]):=by
  rw [lexL_step,step_hash (by decide) (by decide) (by decide) rfl]
  rcases h with ⟨rfl,rfl⟩ | ⟨rfl,rfl⟩
  · have hw:word (116::32::rest)=[116]:=word_app [116] rest 32 (by decide);rw [hw,if_pos rfl];simp only [List.drop_succ_cons,List.drop_zero]
    exact lexL_blank _ _ _
  · have hw:word (102::32::rest)=[102]:=word_app [102] rest 32 (by decide);rw [hw,if_neg (by decide),if_pos rfl];simp only [List.drop_succ_cons,List.drop_zero]
    exact lexL_blank _ _ _
theorem dig_let {c:UInt8} (h:dig c=true):let_ c=true:=by
  unfold dig at h;unfold let_;rw [Bool.and_eq_true] at h;simp [h.1,h.2]
theorem all_dig_let {l:List UInt8} (h:l.all dig=true):l.all let_=true:=by
  rw [List.all_eq_true] at h ⊢;exact fun c hc=>dig_let (h c hc)
theorem dgs_ok {w:List UInt8} (hn:number w=true) (hl:w.length≤13) (h1 : -1099511627776 < value w) (h2:value w < 1099511627776) :
    (dgs (value w)).all let_=true∧dgs (value w)≠[]∧(dgs (value w)).length≤13∧one (dgs (value w)) = .tok 4 (value w) emp (dgs (value w)).length:=by
  have fin:∀ d:List UInt8,number d=true→d.length≤13→value d=value w→one d = .tok 4 (value w) emp d.length:=by
    intro d hd hdl hv;unfold one;rw [if_neg (by rw [hd];decide),if_neg (by omega),hv,if_neg (by omega)]
  by_cases hneg:value w < 0
  · have hb:(-(value w)).toNat < 10 ^ (11+1):=by
      cases w with
      | nil=>cases hn
      | cons c r =>
        by_cases hc:c=45
        · subst hc;have e2:number (45::r)=(r.all dig && decide (0 < r.length)):=rfl;rw [e2,Bool.and_eq_true] at hn;have e3:value (45::r) = - val r:=rfl;rw [List.length_cons] at hl;obtain ⟨b1,b2⟩:=val_bound r hn.1;have h:=Nat.pow_le_pow_right (n:=10) (by decide) (show r.length≤12 by omega);have e:((10 ^ r.length:Nat):Int)=(10:Int) ^ r.length:=by rw [Int.natCast_pow];rfl
          rw [← e] at b2;rw [e3];have:(11:Nat)+1=12:=rfl;rw [this];omega
        · have e3:value (c::r)=val (c::r):=by unfold value;simp only [if_neg hc]
          have e2:number (c::r)=((c::r).all dig && decide (0 < (c::r).length)):=by unfold number unsign;simp only [if_neg hc]
          rw [e2,Bool.and_eq_true] at hn;have:=(val_bound _ hn.1).1;omega
    obtain ⟨i1,i2,i3,i4⟩:=dgN_ok 20 (-(value w)).toNat 11 (LW.pow21 (by omega)) hb;have e:dgs (value w)=45::dgN 20 (-(value w)).toNat:=by unfold dgs;rw [if_pos hneg]
    have hnum:number (45::dgN 20 (-(value w)).toNat)=true:=by
      show (((dgN 20 (-(value w)).toNat).all dig) && decide (0 < (dgN 20 (-(value w)).toNat).length))=true
      rw [i1];have:=List.length_pos_iff.2 i3;simp [this]
    have hv:value (45::dgN 20 (-(value w)).toNat)=value w:=by
      show - val (dgN 20 (-(value w)).toNat)=value w
      rw [i2];omega
    rw [e];refine ⟨?_,by simp,by rw [List.length_cons];omega,fin _ hnum (by rw [List.length_cons];omega) hv⟩
    rw [List.all_cons,all_dig_let i1]
    decide
  · obtain ⟨i1,i2,i3,i4⟩:=dgN_ok 20 (value w).toNat 12 (LW.pow21 (by omega)) (Nat.lt_of_lt_of_le (show (value w).toNat < 1099511627776 by omega) (by decide));have e:dgs (value w)=dgN 20 (value w).toNat:=by unfold dgs;rw [if_neg hneg]
    rw [e];generalize hd:dgN 20 (value w).toNat=d at *;cases d with
    | nil=>exact absurd rfl i3
    | cons c r =>
      have hc:c≠45:=by
        rintro rfl;rw [List.all_cons,Bool.and_eq_true] at i1;exact absurd i1.1 (by decide)
      have hnum:number (c::r)=true:=by
        have e2:number (c::r)=((c::r).all dig && decide (0 < (c::r).length)):=by unfold number unsign;simp only [if_neg hc]
        rw [e2,i1];simp
      have hv:value (c::r)=value w:=by
        have e3:value (c::r)=val (c::r):=by unfold value;simp only [if_neg hc]
        rw [e3,i2];omega
      exact ⟨all_dig_let i1,by simp,i4,fin _ hnum i4 hv⟩
theorem word_let (l:List UInt8):(word l).all let_=true:=by
  rw [List.all_eq_true];intro c hc;obtain ⟨j,hj,e⟩:=List.mem_iff_getElem.1 hc;obtain ⟨x,h1,h2⟩:=tw_yes (p:=let_) (l:=l) (j:=j) hj;have:(word l)[j]? = some x:=by
    unfold word;unfold word at hj;rw [tw_take,List.getElem?_take,if_pos hj];exact h1
  rw [List.getElem?_eq_getElem hj,e] at this;cases this;exact h2
theorem step_good {c:UInt8} {r:List UInt8} {kd n:Int} {sv:ByteArray} {k:Nat} (h:step (c::r) = .tok kd n sv k) (a:Int) :
    GoodT ⟨kd,a,n,sv⟩∧(kd≠4→(c::r).take k=bts (tkB ⟨kd,a,n,sv⟩)∧k=(tkB ⟨kd,a,n,sv⟩).size):=by
  by_cases h1:LX.blank c=true
  · rw [step_blank h1] at h;cases h
  have h1:LX.blank c=false:=by simpa using h1
  by_cases h2:c=59
  · rw [step_note h1 h2] at h;cases h
  by_cases h3:mark c=0
  · by_cases h4:c=35
    · rw [step_hash h1 h2 h3 h4] at h;subst h4;split at h
      · rename_i hw;injection h with e1 e2 e3 e4;subst e1 e2 e3 e4;have ht:tkB ⟨5,a,1,emp⟩=⟨#[35,116]⟩:=rfl;refine ⟨⟨.inr (.inr (.inr (.inr (.inl rfl)))),by dsimp only;omega,by dsimp only;omega,by rw [ht];decide,fun rest p out=>?_⟩,fun _=>⟨?_,by rw [ht];rfl⟩⟩
        · rw [ht];exact bool_blank 116 1 (.inl ⟨rfl,rfl⟩) rest p out
        · rw [ht];cases r with
          | nil=>cases hw
          | cons d q =>
            have:d=116:=by
              unfold word at hw;rw [List.takeWhile_cons] at hw;split at hw
              · injection hw
              · cases hw
            subst this;rfl
      · split at h
        · rename_i hw;injection h with e1 e2 e3 e4;subst e1 e2 e3 e4;have ht:tkB ⟨5,a,0,emp⟩=⟨#[35,102]⟩:=rfl;refine ⟨⟨.inr (.inr (.inr (.inr (.inl rfl)))),by dsimp only;omega,by dsimp only;omega,by rw [ht];decide,fun rest p out=>?_⟩,fun _=>⟨?_,by rw [ht];rfl⟩⟩
          · rw [ht];exact bool_blank 102 0 (.inr ⟨rfl,rfl⟩) rest p out
          · rw [ht];cases r with
            | nil=>cases hw
            | cons d q =>
              have:d=102:=by
                unfold word at hw;rw [List.takeWhile_cons] at hw;split at hw
                · injection hw
                · cases hw
              subst this;rfl
        · cases h
    · by_cases h5:let_ c=true
      · rw [step_one h1 h2 h3 h4 h5] at h;have hk:=one_k h;have hwl:=word_let (c::r);have hw0:word (c::r)≠[]:=by
          have:=word_pos (r:=r) h5;intro e;rw [e] at this;simp at this
        have htake:(c::r).take (word (c::r)).length=word (c::r):=(tw_take let_ (c::r)).symm;generalize word (c::r)=w at *;by_cases hn:number w=true
        · have ho:=h;unfold one at h;rw [if_neg (by rw [hn];decide)] at h;by_cases h13:13 < w.length
          · rw [if_pos h13] at h;cases h
          · rw [if_neg h13] at h;by_cases hv:value w≤-1099511627776∨1099511627776≤value w
            · rw [if_pos hv] at h;cases h
            · rw [if_neg hv] at h;injection h with e1 e2 e3 e4;subst e1 e2 e3;obtain ⟨g1,g2,g3,g4⟩:=dgs_ok hn (by omega) (by omega) (by omega);have ht:tkB ⟨4,a,value w,emp⟩=str (dgs (value w)):=rfl;refine ⟨⟨.inr (.inr (.inr (.inl rfl))),by show -1099511627776 < value w;omega,by show value w < 1099511627776;omega,by rw [ht,str_size];omega,fun rest p out=>?_⟩,fun hh=>absurd rfl hh⟩
              rw [ht,bts_str,str_size];exact word_blank g1 g2 g4 rest p out
        · have hn:number w=false:=by simpa using hn
          have ho:=h;unfold one at h;rw [if_pos hn] at h;by_cases h32:32 < w.length
          · rw [if_pos h32] at h;cases h
          · rw [if_neg h32] at h;injection h with e1 e2 e3 e4;subst e1 e2 e3;have ht:tkB ⟨6,a,0,str w⟩=str w:=rfl;refine ⟨⟨.inr (.inr (.inr (.inr (.inr rfl)))),by dsimp only;omega,by dsimp only;omega,by rw [ht,str_size];omega,fun rest p out=>?_⟩,fun _=>⟨?_,by rw [ht,str_size];exact hk⟩⟩
            · rw [ht,bts_str,str_size];exact word_blank hwl hw0 ho rest p out
            · rw [ht,bts_str,hk];exact htake
      · rw [step_bad h1 h2 h3 h4 (by simpa using h5)] at h;cases h
  · rw [step_mark h1 h2 h3] at h;injection h with e1 e2 e3 e4;subst e1 e2 e3 e4;have ht:tkB ⟨mark c,a,0,emp⟩=str [c]:=by
      rcases LW.mark_yes h3 with rfl | rfl | rfl <;> rfl
    refine ⟨⟨?_,by dsimp only;omega,by dsimp only;omega,by rw [ht,str_size];simp,fun rest p out=>?_⟩,fun _=>⟨?_,by rw [ht,str_size];rfl⟩⟩
    · rcases LW.mark_yes h3 with rfl | rfl | rfl
      · exact .inl rfl
      · exact .inr (.inl rfl)
      · exact .inr (.inr (.inl rfl))
    · rw [ht,bts_str,str_size];exact mark_blank h3 rest p out
    · rw [ht,bts_str];rfl
structure InT (s:ByteArray) (t:Tk):Prop where
  good:GoodT t
  pos:0≤t.at_
  lt:t.at_ < s.size
  fits:t.kind≠4→t.at_+((tkB t).size:Int)≤s.size∧s.extract t.at_.toNat (t.at_.toNat+(tkB t).size)=tkB t
theorem lexL_in (s:ByteArray):∀ (f i:Nat) (out ts:List Tk),s.size - i≤f→i≤s.size→(∀ t∈out,InT s t∧t.at_ < i)→out.Pairwise (fun x y=>x.at_ < y.at_) →
    lexL ((bts s).drop i) i out = .ok ts→(∀ t∈ts,InT s t)∧ts.Pairwise (fun x y=>x.at_ < y.at_):=by
  intro f;induction f with
  | zero =>
    intro i out ts hf hi ho hp h;rw [List.drop_eq_nil_of_le (by rw [size_bts];omega),lexL_nil] at h;injection h with h;subst h;exact ⟨fun t ht=>(ho t ht).1,hp⟩
  | succ f ih =>
    intro i out ts hf hi ho hp h;by_cases hlt:i < s.size
    · have hR:=h;cases hst:step (s[i]::(bts s).drop (i+1)) with
      | err e =>
        have:=LW.lex_err hlt hR hst;cases this
      | skip k =>
        have h2:=LW.lex_skip hlt hR hst;have hk:0 < k∧i+k≤s.size:=by
          refine ⟨?_,?_⟩
          · rcases step_adv s[i] ((bts s).drop (i+1)) with ⟨e,he⟩ | ⟨h1,_⟩
            · rw [hst] at he;cases he
            · rw [hst] at h1;exact h1
          · rcases LW.lex_fits hlt with ⟨e,he⟩ | h1
            · rw [hst] at he;cases he
            · rw [hst] at h1;exact h1
        exact ih (i+k) out ts (by omega) hk.2 (fun t ht=>⟨(ho t ht).1,by have:=(ho t ht).2;omega⟩) hp h2
      | tok kd n sv k =>
        have h2:=LW.lex_tok hlt hR hst;have hk:0 < k∧i+k≤s.size:=by
          refine ⟨LW.step_pos hst,?_⟩
          rcases LW.lex_fits hlt with ⟨e,he⟩ | h1
          · rw [hst] at he;cases he
          · rw [hst] at h1;exact h1
        obtain ⟨g1,g2⟩:=step_good hst (i:Int);have hT:InT s ⟨kd,i,n,sv⟩:=by
          refine ⟨g1,by simp,by dsimp only;omega,fun hne=>?_⟩
          obtain ⟨t1,t2⟩:=g2 hne
          dsimp only
          refine ⟨by omega,?_⟩
          rw [Int.toNat_natCast,← t2,LW.cut_str,LW.drop_cons s i hlt,t1,str_bts]
        refine ih (i+k) _ ts (by omega) hk.2 ?_ ?_ h2
        · intro t ht
          rcases List.mem_append.1 ht with ht | ht
          · exact ⟨(ho t ht).1,by have:=(ho t ht).2;omega⟩
          · have:t=⟨kd,i,n,sv⟩:=by simpa using ht
            subst this;exact ⟨hT,by dsimp only;omega⟩
        · rw [List.pairwise_append];refine ⟨hp,by simp,fun x hx y hy=>?_⟩
          have:y=⟨kd,i,n,sv⟩:=by simpa using hy
          subst this;exact (ho x hx).2
    · rw [List.drop_eq_nil_of_le (by rw [size_bts];omega),lexL_nil] at h;injection h with h;subst h;exact ⟨fun t ht=>(ho t ht).1,hp⟩
theorem lex_in_s {s:ByteArray} {ts:List Tk} (h:lex s = .ok ts):(∀ t∈ts,InT s t)∧ts.Pairwise (fun x y=>x.at_ < y.at_):=by
  have h2:=(lex_len h).2;rw [lex_small h2] at h;exact lexL_in s s.size 0 [] ts (by omega) (by omega) (by simp) (by simp) h
end LX
end Go.Proofs.YtehgmmbdlnginaaGreatDoor
namespace Go.Proofs.YtehgmmbdlnginaaGreatDoor
open Go.RowKit
namespace RX
end RX
namespace RC6
open LX RX RW6
open RM6 (Kin ndC kinsN kinsP ints_snoc ints_len ndC_snoc own_off one_far)
structure KeepT (w w':World):Prop where
  size:w.heap.size≤w'.heap.size
  tok:∀ b l,MM.Row w b 81 l→MM.Row w' b 81 l
theorem Keep.t {v:Value} {w w':World} (h:Keep v w w'):KeepT w w':=⟨h.size,h.tok⟩
section
variable {w0 w:World} {q:Nat} {rv tv ov:Value} {rs:List (Nd × Value)} {tops:List Nat} {os:List (Pt × Value)} {ex:List (Value × List Nat)}
end
end RC6
end Go.Proofs.YtehgmmbdlnginaaGreatDoor
namespace Go.Proofs.YtehgmmbdlnginaaGreatDoor
open Go.RowKit
namespace RC6
open LX RX RW6
open RM6 (Kin ndC kinsN kinsP ints_snoc ints_len ndC_snoc own_off one_far)
section
variable {w0 w:World} {q:Nat} {rv tv ov:Value} {rs:List (Nd × Value)} {tops:List Nat} {os:List (Pt × Value)} {ex:List (Value × List Nat)}
end
end RC6
end Go.Proofs.YtehgmmbdlnginaaGreatDoor
namespace Go.Proofs.YtehgmmbdlnginaaGreatDoor
open Go.RowKit
namespace RC6
open LX RX RW6
open RM6 (Kin ndC kinsN kinsP ints_snoc ints_len ndC_snoc own_off one_far)
section
variable {w0 w:World} {q:Nat} {rv tv ov:Value} {rs:List (Nd × Value)} {tops:List Nat} {os:List (Pt × Value)} {ex:List (Value × List Nat)}
end
end RC6
end Go.Proofs.YtehgmmbdlnginaaGreatDoor
namespace Go.Proofs.YtehgmmbdlnginaaGreatDoor
open Go.RowKit
namespace RC6
open LX RX RW6
open RM6 (Kin ndC kinsN kinsP ints_snoc ints_len ndC_snoc own_off one_far)
section
variable {w0 w:World} {q:Nat} {rv tv ov:Value} {rs:List (Nd × Value)} {tops:List Nat} {os:List (Pt × Value)} {ex:List (Value × List Nat)}
end
end RC6
end Go.Proofs.YtehgmmbdlnginaaGreatDoor
