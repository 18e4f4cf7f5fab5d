/-
  Several texts in one: LexRef1,LexRef2,LexRef3,LexRef4,LexRef5,LexRef6,LexGap,LexSame. Each one's own head tells its conditions.
-/
import Derived.Test.YtehgmmbdlnginaaGreatDoorQLexPure
import Derived.Test.YtehgmmbdlnginaaGreatDoorQCodePlain
import Derived.Test.YtehgmmbdlnginaaGreatDoorProg
import Derived.Lib.Hide
import Derived.Lib.Strings
import Derived.WalkKit
import Derived.WalkSpells
import Derived.WalkLawsBesides
import Derived.Laws.RangeAny
import Derived.BigQuiet
namespace Go.Proofs.YtehgmmbdlnginaaGreatDoor
open Go.RowKit
namespace LW
open LX
theorem data_at (s:ByteArray) (k:Nat) (h:k < s.size):(bts s)[k]? = some s[k]:=by
  unfold bts;have h1:k < s.data.size:=h;rw [Array.getElem?_toList,Array.getElem?_eq_getElem h1];rfl
theorem bts_len (s:ByteArray):(bts s).length=s.size:=by unfold bts;rw [Array.length_toList];rfl
def mks:ByteArray:=⟨#[33,36,37,38,42,43,45,47,58,60,61,62,63,94,95,126]⟩
def NoneOf (m:ByteArray) (c:UInt8) (k:Nat):Prop:=∀ j,j < k→(bts m)[j]?≠some c
theorem noneof_hit {m:ByteArray} {c:UInt8} {k:Nat} (h:k < m.size) (e:m[k]=c):decide (c∈bts m)=true:=by
  have h1:=data_at m k h;rw [e] at h1;simp [List.mem_of_getElem? h1]
theorem noneof_step {m:ByteArray} {c:UInt8} {k:Nat} (hn:NoneOf m c k) (h:k < m.size) (e:m[k]≠c):NoneOf m c (k+1):=by
  intro j hj;by_cases hjk:j=k
  · subst hjk;rw [data_at m j h];simpa using e
  · exact hn j (by omega)
theorem noneof_all {m:ByteArray} {c:UInt8} (hn:NoneOf m c m.size):decide (c∈bts m)=false:=by
  have h1:c∉bts m:=by
    intro hm;obtain ⟨j,hj,e⟩:=List.mem_iff_getElem.1 hm;exact hn j (by rw [← bts_len];exact hj) (by rw [List.getElem?_eq_getElem hj,e])
  simp [h1]
set_option maxHeartbeats 2000000 in
theorem letter_any (c:UInt8) (w:World):Calls Tryz.prog 51 #[.int .u8 (c.toNat:Int)] w fun e w'=>e = .returned (.bool (let_ c))∧w=w':=by
  have hc:=c.toNat_lt;obtain ⟨n,hn⟩:∃ n,c.toNat=n:=⟨_,rfl⟩
  have HN:=Lib.hid hn;rw [hn];rw [hn] at hc;clear hn;by_cases h1:(97≤n∧n≤122)∨(65≤n∧n≤90)∨(48≤n∧n≤57)
  · have e1:let_ c=true:=by
      unfold let_;rw [HN.out]
      rcases h1 with h | h | h <;> simp [h.1,h.2]
    rw [e1];clear e1;by_cases a1:97≤n
    · by_cases a2:n≤122
      · have d1:decide ((97:Int)≤n)=true:=by simp;omega
        have d2:decide ((n:Int)≤122)=true:=by simp;omega
        clear h1 a1 a2;go_enter Tryz.func51,Tryz.ntmps51
        go_wp2;go_ret
        exact ⟨rfl,rfl⟩
      · omega
    · have d1:decide ((97:Int)≤n)=false:=by simp;omega
      by_cases b1:65≤n
      · have d2:decide ((65:Int)≤n)=true:=by simp;omega
        have d3:decide ((n:Int)≤90)=true:=by simp;omega
        clear h1 a1 b1;go_enter Tryz.func51,Tryz.ntmps51
        go_wp2;go_ret
        exact ⟨rfl,rfl⟩
      · have d2:decide ((65:Int)≤n)=false:=by simp;omega
        have d3:decide ((48:Int)≤n)=true:=by simp;omega
        have d4:decide ((n:Int)≤57)=true:=by simp;omega
        clear h1 a1 b1;go_enter Tryz.func51,Tryz.ntmps51
        go_wp2;go_ret
        exact ⟨rfl,rfl⟩
  · have e1:let_ c=decide (c∈bts mks):=by
      unfold let_;rw [HN.out];have x1:(decide (97≤n) && decide (n≤122))=false:=by simp;omega
      have x2:(decide (65≤n) && decide (n≤90))=false:=by simp;omega
      have x3:(decide (48≤n) && decide (n≤57))=false:=by simp;omega
      rw [x1,x2,x3,← List.contains_eq_mem];rfl
    rw [e1];clear e1;have hm:mks.size=16:=rfl;have h4:n < 48∨(58≤n∧n < 65)∨(91≤n∧n < 97)∨123≤n:=by omega
    clear h1
    rcases h4 with h | h | h | h
    · have d1:decide ((97:Int)≤n)=false:=by simp;omega
      have d2:decide ((65:Int)≤n)=false:=by simp;omega
      have d3:decide ((48:Int)≤n)=false:=by simp;omega
      clear h;go_enter Tryz.func51,Tryz.ntmps51
      go_wp2;rw [show (⟨#[33,36,37,38,42,43,45,47,58,60,61,62,63,94,95,126]⟩:ByteArray)=mks from rfl]
      go_loop [4] (fun i=>∃ k:Nat,k≤16∧i = .int .i64 (k:Int)∧Hid (NoneOf mks c k)) (fun i=>16 - (intOf i).toNat)
      case atStart=>exact ⟨0,by omega,rfl,Lib.hid (fun j hj=>absurd hj (by omega))⟩
      case round =>
        obtain ⟨k,hk,rfl,hno⟩:=hrel;by_cases hlt:k < 16
        · have hks:k < mks.size:=by omega
          by_cases e:(mks[k]).toNat=n
          · have h1:=noneof_hit (c:=c) hks (UInt8.toNat_inj.1 (e.trans HN.out.symm));have H1:=Lib.hid h1;have e1:(((mks[k]).toNat:Int) == (n:Int))=true:=by rw [beq_iff_eq];omega
            clear e h1;go_wp2;go_ret
            rw [H1.out];exact ⟨rfl,rfl⟩
          · have h1:=noneof_step hno.out hks (fun h=>e (h ▸ HN.out));have H1:=Lib.hid h1;have e1:(((mks[k]).toNat:Int) == (n:Int))=false:=by rw [beq_eq_false_iff_ne];omega
            clear e h1;go_wp2
            go_round
            case rel=>exact ⟨k+1,by omega,by go_num,H1⟩
            case measure=>simp [intOf];omega
        · obtain rfl:k=16:=by omega
          have H1:=Lib.hid (noneof_all (m:=mks) (by rw [hm];exact hno.out));go_wp2;go_ret
          rw [H1.out];exact ⟨rfl,rfl⟩
    · have d1:decide ((97:Int)≤n)=false:=by simp;omega
      have d2:decide ((65:Int)≤n)=false:=by simp;omega
      have d3:decide ((48:Int)≤n)=true:=by simp;omega
      have d4:decide ((n:Int)≤57)=false:=by simp;omega
      clear h;go_enter Tryz.func51,Tryz.ntmps51
      go_wp2;rw [show (⟨#[33,36,37,38,42,43,45,47,58,60,61,62,63,94,95,126]⟩:ByteArray)=mks from rfl]
      go_loop [4] (fun i=>∃ k:Nat,k≤16∧i = .int .i64 (k:Int)∧Hid (NoneOf mks c k)) (fun i=>16 - (intOf i).toNat)
      case atStart=>exact ⟨0,by omega,rfl,Lib.hid (fun j hj=>absurd hj (by omega))⟩
      case round =>
        obtain ⟨k,hk,rfl,hno⟩:=hrel;by_cases hlt:k < 16
        · have hks:k < mks.size:=by omega
          by_cases e:(mks[k]).toNat=n
          · have h1:=noneof_hit (c:=c) hks (UInt8.toNat_inj.1 (e.trans HN.out.symm));have H1:=Lib.hid h1;have e1:(((mks[k]).toNat:Int) == (n:Int))=true:=by rw [beq_iff_eq];omega
            clear e h1;go_wp2;go_ret
            rw [H1.out];exact ⟨rfl,rfl⟩
          · have h1:=noneof_step hno.out hks (fun h=>e (h ▸ HN.out));have H1:=Lib.hid h1;have e1:(((mks[k]).toNat:Int) == (n:Int))=false:=by rw [beq_eq_false_iff_ne];omega
            clear e h1;go_wp2
            go_round
            case rel=>exact ⟨k+1,by omega,by go_num,H1⟩
            case measure=>simp [intOf];omega
        · obtain rfl:k=16:=by omega
          have H1:=Lib.hid (noneof_all (m:=mks) (by rw [hm];exact hno.out));go_wp2;go_ret
          rw [H1.out];exact ⟨rfl,rfl⟩
    · have d1:decide ((97:Int)≤n)=false:=by simp;omega
      have d2:decide ((65:Int)≤n)=true:=by simp;omega
      have d3:decide ((n:Int)≤90)=false:=by simp;omega
      have d4:decide ((48:Int)≤n)=true:=by simp;omega
      have d5:decide ((n:Int)≤57)=false:=by simp;omega
      clear h;go_enter Tryz.func51,Tryz.ntmps51
      go_wp2;rw [show (⟨#[33,36,37,38,42,43,45,47,58,60,61,62,63,94,95,126]⟩:ByteArray)=mks from rfl]
      go_loop [4] (fun i=>∃ k:Nat,k≤16∧i = .int .i64 (k:Int)∧Hid (NoneOf mks c k)) (fun i=>16 - (intOf i).toNat)
      case atStart=>exact ⟨0,by omega,rfl,Lib.hid (fun j hj=>absurd hj (by omega))⟩
      case round =>
        obtain ⟨k,hk,rfl,hno⟩:=hrel;by_cases hlt:k < 16
        · have hks:k < mks.size:=by omega
          by_cases e:(mks[k]).toNat=n
          · have h1:=noneof_hit (c:=c) hks (UInt8.toNat_inj.1 (e.trans HN.out.symm));have H1:=Lib.hid h1;have e1:(((mks[k]).toNat:Int) == (n:Int))=true:=by rw [beq_iff_eq];omega
            clear e h1;go_wp2;go_ret
            rw [H1.out];exact ⟨rfl,rfl⟩
          · have h1:=noneof_step hno.out hks (fun h=>e (h ▸ HN.out));have H1:=Lib.hid h1;have e1:(((mks[k]).toNat:Int) == (n:Int))=false:=by rw [beq_eq_false_iff_ne];omega
            clear e h1;go_wp2
            go_round
            case rel=>exact ⟨k+1,by omega,by go_num,H1⟩
            case measure=>simp [intOf];omega
        · obtain rfl:k=16:=by omega
          have H1:=Lib.hid (noneof_all (m:=mks) (by rw [hm];exact hno.out));go_wp2;go_ret
          rw [H1.out];exact ⟨rfl,rfl⟩
    · have d1:decide ((97:Int)≤n)=true:=by simp;omega
      have d2:decide ((n:Int)≤122)=false:=by simp;omega
      have d3:decide ((65:Int)≤n)=true:=by simp;omega
      have d4:decide ((n:Int)≤90)=false:=by simp;omega
      have d5:decide ((48:Int)≤n)=true:=by simp;omega
      have d6:decide ((n:Int)≤57)=false:=by simp;omega
      clear h;go_enter Tryz.func51,Tryz.ntmps51
      go_wp2;rw [show (⟨#[33,36,37,38,42,43,45,47,58,60,61,62,63,94,95,126]⟩:ByteArray)=mks from rfl]
      go_loop [4] (fun i=>∃ k:Nat,k≤16∧i = .int .i64 (k:Int)∧Hid (NoneOf mks c k)) (fun i=>16 - (intOf i).toNat)
      case atStart=>exact ⟨0,by omega,rfl,Lib.hid (fun j hj=>absurd hj (by omega))⟩
      case round =>
        obtain ⟨k,hk,rfl,hno⟩:=hrel;by_cases hlt:k < 16
        · have hks:k < mks.size:=by omega
          by_cases e:(mks[k]).toNat=n
          · have h1:=noneof_hit (c:=c) hks (UInt8.toNat_inj.1 (e.trans HN.out.symm));have H1:=Lib.hid h1;have e1:(((mks[k]).toNat:Int) == (n:Int))=true:=by rw [beq_iff_eq];omega
            clear e h1;go_wp2;go_ret
            rw [H1.out];exact ⟨rfl,rfl⟩
          · have h1:=noneof_step hno.out hks (fun h=>e (h ▸ HN.out));have H1:=Lib.hid h1;have e1:(((mks[k]).toNat:Int) == (n:Int))=false:=by rw [beq_eq_false_iff_ne];omega
            clear e h1;go_wp2
            go_round
            case rel=>exact ⟨k+1,by omega,by go_num,H1⟩
            case measure=>simp [intOf];omega
        · obtain rfl:k=16:=by omega
          have H1:=Lib.hid (noneof_all (m:=mks) (by rw [hm];exact hno.out));go_wp2;go_ret
          rw [H1.out];exact ⟨rfl,rfl⟩
end LW
end Go.Proofs.YtehgmmbdlnginaaGreatDoor
namespace Go.Proofs.YtehgmmbdlnginaaGreatDoor
open Go.RowKit
namespace LX
theorem tw_yes {p:UInt8→Bool} {l:List UInt8} {j:Nat} (h:j < (l.takeWhile p).length):∃ x,l[j]? = some x∧p x=true:=by
  induction l generalizing j with
  | nil=>simp at h
  | cons c l ih =>
    rw [List.takeWhile_cons] at h;split at h
    · rename_i hc;cases j with
      | zero=>exact ⟨c,rfl,hc⟩
      | succ j=>simpa using ih (by simpa using h)
    · simp at h
theorem tw_no {p:UInt8→Bool} {l:List UInt8} (h:(l.takeWhile p).length < l.length):∃ x,l[(l.takeWhile p).length]? = some x∧p x=false:=by
  induction l with
  | nil=>simp at h
  | cons c l ih =>
    by_cases hc:p c=true
    · simp only [List.takeWhile_cons,hc,if_true,List.length_cons] at h ⊢
      simpa using ih (by omega)
    · have hc':p c=false:=by simpa using hc
      simp only [List.takeWhile_cons,hc',Bool.false_eq_true,if_false]
      exact ⟨c,rfl,hc'⟩
theorem tw_take (p:UInt8→Bool) (l:List UInt8):l.takeWhile p=l.take (l.takeWhile p).length:=by
  induction l with
  | nil=>rfl
  | cons c l ih =>
    by_cases hc:p c=true
    · simp only [List.takeWhile_cons,hc,if_true,List.length_cons,List.take_succ_cons]
      rw [← ih]
    · simp [hc]
end LX
namespace LW
open LX
theorem ret_str {a b:ByteArray} (h:a=b):Ending.returned (.string a) = .returned (.string b):=by rw [h]
theorem mark_any (c:UInt8) (w:World):Calls Tryz.prog 49 #[.int .u8 (c.toNat:Int)] w fun e w'=>e = .returned (.int .u8 (LX.mark c))∧w=w':=by
  have key:(c.toNat=40∧LX.mark c=1)∨(c.toNat=41∧LX.mark c=2)∨(c.toNat=39∧LX.mark c=3)∨(c.toNat≠40∧c.toNat≠41∧c.toNat≠39∧LX.mark c=0):=by
    unfold LX.mark;by_cases h1:c=40
    · subst h1;exact .inl ⟨rfl,rfl⟩
    · by_cases h2:c=41
      · subst h2;exact .inr (.inl ⟨rfl,rfl⟩)
      · by_cases h3:c=39
        · subst h3;exact .inr (.inr (.inl ⟨rfl,rfl⟩))
        · refine .inr (.inr (.inr ⟨fun e=>h1 (UInt8.toNat_inj.1 e),fun e=>h2 (UInt8.toNat_inj.1 e),fun e=>h3 (UInt8.toNat_inj.1 e),?_⟩))
          rw [if_neg h1,if_neg h2,if_neg h3]
  generalize LX.mark c=k at *;generalize c.toNat=n at *
  rcases key with ⟨rfl,rfl⟩ | ⟨rfl,rfl⟩ | ⟨rfl,rfl⟩ | ⟨h1,h2,h3,rfl⟩
  · go_enter Tryz.func49,Tryz.ntmps49
    go_wp2;go_ret
    exact ⟨rfl,rfl⟩
  · go_enter Tryz.func49,Tryz.ntmps49
    go_wp2;go_ret
    exact ⟨rfl,rfl⟩
  · go_enter Tryz.func49,Tryz.ntmps49
    go_wp2;go_ret
    exact ⟨rfl,rfl⟩
  · have d1:((n:Int) == 40)=false:=by rw [beq_eq_false_iff_ne];omega
    have d2:((n:Int) == 41)=false:=by rw [beq_eq_false_iff_ne];omega
    have d3:((n:Int) == 39)=false:=by rw [beq_eq_false_iff_ne];omega
    clear h1 h2 h3;go_enter Tryz.func49,Tryz.ntmps49
    go_wp2;go_ret
    exact ⟨rfl,rfl⟩
theorem drop_at (s:ByteArray) (a j:Nat) (h:a+j < s.size):((bts s).drop a)[j]? = some s[a+j]:=by
  rw [List.getElem?_drop,data_at s (a+j) h]
theorem cut_str (s:ByteArray) (a k:Nat):s.extract a (a+k)=str (((bts s).drop a).take k):=by
  apply ByteArray.ext
  apply Array.toList_inj.1
  rw [Lib.extract_data];unfold str bts;simp
set_option maxHeartbeats 1000000 in
theorem word_any (s:ByteArray) (a:Nat) (ha:a≤s.size) (hm:s.size≤5000) (w:World):Calls Tryz.prog 50 #[.string s,.int .i64 a] w fun e w'=>e = .returned (.string (str (word ((bts s).drop a))))∧w=w':=by
  obtain ⟨n,hn⟩:∃ n,(word ((bts s).drop a)).length=n:=⟨_,rfl⟩
  have hle:a+n≤s.size:=by
    have:=word_le ((bts s).drop a);rw [List.length_drop,bts_len] at this;omega
  have hres:str (word ((bts s).drop a))=s.extract a (a+n):=by
    rw [cut_str s a n];unfold word at hn ⊢;rw [tw_take,hn]
  rw [hres];have hyes:∀ j (h:a+j < s.size),j < n→let_ s[a+j]=true:=by
    intro j h hj;obtain ⟨x,h1,h2⟩:=tw_yes (p:=let_) (l:=(bts s).drop a) (j:=j) (by unfold word at hn;omega);rw [drop_at s a j h] at h1;cases h1;exact h2
  have hno:∀ (h:a+n < s.size),let_ s[a+n]=false:=by
    intro h;unfold word at hn;obtain ⟨x,h1,h2⟩:=tw_no (p:=let_) (l:=(bts s).drop a) (by rw [List.length_drop,bts_len];omega);rw [hn,drop_at s a n h] at h1;cases h1;exact h2
  have HY:=Lib.hid hyes;have HN:=Lib.hid hno;clear hres hyes hno hn;go_enter Tryz.func50,Tryz.ntmps50
  go_wp2
  go_loop [5] (fun i=>∃ j:Nat,j≤n∧i = .int .i64 ((a+j:Nat):Int)) (fun i=>s.size - (intOf i).toNat)
  case atStart=>exact ⟨0,by omega,rfl⟩
  case round =>
    obtain ⟨j,hj,rfl⟩:=hrel;obtain ⟨i,hi⟩:∃ i,i=a+j:=⟨_,rfl⟩
    rw [← hi];by_cases hlt:i < s.size
    · by_cases hjn:j < n
      · have hl:=HY.out j (by omega) hjn;have hL:let_ s[i]=true:=by
          have:s[i]=s[a+j]'(by omega):=by congr 1
          rw [this];exact hl
        have HL:=Lib.hid (letter_any s[i] w);rw [hL] at HL;have HI:=Lib.hid hi;clear hl hL hi
        go_wp2_with (go_at_call 51;refine HL.out.mono ?_;rintro e w' ⟨rfl,rfl⟩)
        go_round
        case rel=>exact ⟨j+1,by omega,by have:=HI.out;go_num⟩
        case measure=>simp [intOf];omega
      · obtain rfl:j=n:=by omega
        have hl:=HN.out (by omega);have hL:let_ s[i]=false:=by
          have:s[i]=s[a+j]'(by omega):=by congr 1
          rw [this];exact hl
        have HL:=Lib.hid (letter_any s[i] w);rw [hL] at HL;have hai:a≤i:=by omega
        have HI:=Lib.hid hi;clear hl hL hi
        go_wp2_with (go_at_call 51;refine HL.out.mono ?_;rintro e w' ⟨rfl,rfl⟩)
        go_ret
        exact ⟨ret_str (by rw [HI.out]),rfl⟩
    · have hai:a≤i:=by omega
      have his:i=s.size:=by omega
      have HI:=Lib.hid (show i=a+n by omega);have his2:¬ (i < s.size):=hlt;have his3:i≤s.size:=by omega
      clear hi his hlt hj;go_wp2;go_ret
      exact ⟨ret_str (by rw [HI.out]),rfl⟩
def Digs (s:ByteArray) (k:Nat):Prop:=∀ j (h:j < s.size),j < k→dig s[j]=true
theorem at_bts (s:ByteArray) (j:Nat) (h:j < s.size) (h2:j < (bts s).length):(bts s)[j]=s[j]:=by
  have:=data_at s j h;rw [List.getElem?_eq_getElem h2] at this;exact Option.some.inj this
theorem digs_all {s:ByteArray} (h:Digs s s.size):(bts s).all dig=true:=by
  rw [List.all_eq_true];intro x hx;obtain ⟨j,hj,rfl⟩:=List.mem_iff_getElem.1 hx;have hj2:j < s.size:=by rw [← bts_len];exact hj
  rw [at_bts s j hj2 hj];exact h j hj2 hj2
theorem digs_no {s:ByteArray} {j:Nat} (hj:j < s.size) (h:dig s[j]=false):(bts s).all dig=false:=by
  rw [List.all_eq_false];exact ⟨_,List.mem_of_getElem? (data_at s j hj),by simp [h]⟩
theorem digs_step {s:ByteArray} {k:Nat} (h:Digs s k) (hk:k < s.size) (hd:dig s[k]=true):Digs s (k+1):=by
  intro j hj hjk;by_cases e:j=k
  · subst e;exact hd
  · exact h j hj (by omega)
theorem ret_bool {a b:Bool} (h:a=b):Ending.returned (.bool a) = .returned (.bool b):=by rw [h]
theorem dig_yes {c:UInt8} (h:dig c=true):48≤c.toNat∧c.toNat≤57:=by simpa [dig] using h
theorem dig_no {c:UInt8} (h:dig c=false):c.toNat < 48∨57 < c.toNat:=by
  simp [dig] at h;omega
set_option maxHeartbeats 2000000 in
theorem number_neg (s x:ByteArray) (hp:0 < s.size) (hs:s.size≤5000) (h1:(((s[0]'hp).toNat:Int) == 45)=true) (hx:s.extract 1 s.size=x) (n:Nat) (hls:x.size=n) (hn:n≤5000) (w:World):Calls Tryz.prog 95 #[.string s] w fun e w'=>e = .returned (.bool ((bts x).all dig && decide (0 < n)))∧w=w':=by
  have HX:=Lib.hid hx;have hp1:1≤s.size:=hp;clear hx;go_enter Tryz.func95,Tryz.ntmps95
  go_wp2;rw [HX.out]
  go_loop [3] (fun i=>∃ k:Nat,k≤n∧i = .int .i64 (k:Int)∧Hid (Digs x k)) (fun i=>n - (intOf i).toNat)
  case atStart=>exact ⟨0,by omega,rfl,Lib.hid (fun j h hj=>absurd hj (by omega))⟩
  case round =>
    obtain ⟨k,hk,rfl,hd⟩:=hrel;by_cases hlt:k < n
    · have hks:k < x.size:=by omega
      by_cases hg:dig x[k]=true
      · obtain ⟨g1,g2⟩:=dig_yes hg;have HD:=Lib.hid (digs_step hd.out hks hg);have d1:decide (((x[k]).toNat:Int) < 48)=false:=by simp;omega
        have d2:decide ((57:Int) < ((x[k]).toNat:Int))=false:=by simp;omega
        clear g1 g2 hg;go_wp2
        go_round
        case rel=>exact ⟨k+1,by omega,by go_num,HD⟩
        case measure=>simp [intOf];omega
      · have hg':dig x[k]=false:=by simpa using hg
        have HNo:=Lib.hid (digs_no hks hg');have h4:=dig_no hg';clear hg hg';by_cases d1:decide (((x[k]).toNat:Int) < 48)=true
        · clear h4;go_wp2;go_ret
          exact ⟨ret_bool (by simp [HNo.out]),rfl⟩
        · have d1:decide (((x[k]).toNat:Int) < 48)=false:=by simpa using d1
          have d2:decide ((57:Int) < ((x[k]).toNat:Int))=true:=by simp at d1 ⊢;omega
          clear h4;go_wp2;go_ret
          exact ⟨ret_bool (by simp [HNo.out]),rfl⟩
    · obtain rfl:k=n:=by omega
      have HA:=Lib.hid (digs_all (s:=x) (by rw [hls];exact hd.out));go_wp2;go_ret
      exact ⟨ret_bool (by simp [HA.out]),rfl⟩
set_option maxHeartbeats 2000000 in
theorem number_pos (x:ByteArray) (n:Nat) (hls:x.size=n) (hp:0 < n) (hn:n≤5000) (h1:(((x[0]'(by omega)).toNat:Int) == 45)=false) (w:World):Calls Tryz.prog 95 #[.string x] w fun e w'=>e = .returned (.bool ((bts x).all dig && decide (0 < n)))∧w=w':=by
  have hp1:0 < x.size:=by omega
  go_enter Tryz.func95,Tryz.ntmps95
  go_wp2
  go_loop [3] (fun i=>∃ k:Nat,k≤n∧i = .int .i64 (k:Int)∧Hid (Digs x k)) (fun i=>n - (intOf i).toNat)
  case atStart=>exact ⟨0,by omega,rfl,Lib.hid (fun j h hj=>absurd hj (by omega))⟩
  case round =>
    obtain ⟨k,hk,rfl,hd⟩:=hrel;by_cases hlt:k < n
    · have hks:k < x.size:=by omega
      by_cases hg:dig x[k]=true
      · obtain ⟨g1,g2⟩:=dig_yes hg;have HD:=Lib.hid (digs_step hd.out hks hg);have d1:decide (((x[k]).toNat:Int) < 48)=false:=by simp;omega
        have d2:decide ((57:Int) < ((x[k]).toNat:Int))=false:=by simp;omega
        clear g1 g2 hg;go_wp2
        go_round
        case rel=>exact ⟨k+1,by omega,by go_num,HD⟩
        case measure=>simp [intOf];omega
      · have hg':dig x[k]=false:=by simpa using hg
        have HNo:=Lib.hid (digs_no hks hg');have h4:=dig_no hg';clear hg hg';by_cases d1:decide (((x[k]).toNat:Int) < 48)=true
        · clear h4;go_wp2;go_ret
          exact ⟨ret_bool (by simp [HNo.out]),rfl⟩
        · have d1:decide (((x[k]).toNat:Int) < 48)=false:=by simpa using d1
          have d2:decide ((57:Int) < ((x[k]).toNat:Int))=true:=by simp at d1 ⊢;omega
          clear h4;go_wp2;go_ret
          exact ⟨ret_bool (by simp [HNo.out]),rfl⟩
    · obtain rfl:k=n:=by omega
      have HA:=Lib.hid (digs_all (s:=x) (by rw [hls];exact hd.out));go_wp2;go_ret
      exact ⟨ret_bool (by simp [HA.out]),rfl⟩
end LW
end Go.Proofs.YtehgmmbdlnginaaGreatDoor
namespace Go.Proofs.YtehgmmbdlnginaaGreatDoor
open Go.RowKit
namespace LX
theorem bts_str (l:List UInt8):bts (str l)=l:=by unfold bts str;simp
theorem str_bts (s:ByteArray):str (bts s)=s:=by
  apply ByteArray.ext
  unfold str bts;simp
theorem str_size (l:List UInt8):(str l).size=l.length:=by unfold str;show l.toArray.size=_;simp
theorem val_snoc (l:List UInt8) (c:UInt8):val (l++[c])=val l*10+((c.toNat:Int) - 48):=by
  unfold val;rw [List.foldl_append];rfl
theorem val_fold (l:List UInt8):∀ a:Int,0≤a→l.all dig=true→0≤l.foldl (fun n c=>n*10+((c.toNat:Int) - 48)) a∧l.foldl (fun n c=>n*10+((c.toNat:Int) - 48)) a < (a+1)*(10:Int) ^ l.length:=by
  induction l with
  | nil=>intro a ha _;simp;omega
  | cons c l ih =>
    intro a ha h;rw [List.all_cons,Bool.and_eq_true] at h;have hc:48≤c.toNat∧c.toNat≤57:=by have:=h.1;simpa [dig] using this
    obtain ⟨h1,h2⟩:=ih (a*10+((c.toNat:Int) - 48)) (by omega) h.2;refine ⟨h1,Int.lt_of_lt_of_le h2 ?_⟩
    have hp:(0:Int)≤(10:Int) ^ l.length:=Int.pow_nonneg (by decide);have:=Int.mul_le_mul_of_nonneg_right (show a*10+((c.toNat:Int) - 48)+1≤(a+1)*10 by omega) hp;rw [List.length_cons,Int.pow_succ];rw [Int.mul_assoc] at this;rw [Int.mul_comm ((10:Int) ^ l.length) 10];exact this
theorem val_bound (l:List UInt8) (h:l.all dig=true):0≤val l∧val l < (10:Int) ^ l.length:=by
  have:=val_fold l 0 (by decide) h;simpa [val] using this
theorem val_small (l:List UInt8) (h:l.all dig=true) (hl:l.length≤14):0≤val l∧val l < 100000000000000:=by
  obtain ⟨h1,h2⟩:=val_bound l h;refine ⟨h1,Int.lt_of_lt_of_le h2 ?_⟩
  have h:=Nat.pow_le_pow_right (n:=10) (by decide) hl;have e:((10 ^ l.length:Nat):Int)=(10:Int) ^ l.length:=by rw [Int.natCast_pow];rfl
  rw [← e];omega
end LX
namespace LW
open LX
theorem val_step {x:ByteArray} {k:Nat} (h:k < x.size):val ((bts x).take (k+1))=val ((bts x).take k)*10+(((x[k]).toNat:Int) - 48):=by
  have hk:k < (bts x).length:=by rw [bts_len];exact h
  rw [List.take_succ_eq_append_getElem hk,val_snoc,at_bts x k h hk];rfl
theorem val_take {x:ByteArray} {k:Nat} (hd:(bts x).all dig=true) (hn:x.size≤14):0≤val ((bts x).take k)∧val ((bts x).take k) < 100000000000000:=by
  refine val_small _ ?_ ?_
  · rw [List.all_eq_true] at hd ⊢;exact fun c hc=>hd c (List.mem_of_mem_take hc)
  · rw [List.length_take,bts_len];omega
theorem dig_at {x:ByteArray} {k:Nat} (hd:(bts x).all dig=true) (h:k < x.size):dig x[k]=true:=by
  rw [List.all_eq_true] at hd;exact hd _ (List.mem_of_getElem? (data_at x k h))
theorem number_any (s:ByteArray) (hp:0 < s.size) (hs:s.size≤5000) (w:World):Calls Tryz.prog 95 #[.string s] w fun e w'=>e = .returned (.bool (LX.number (bts s)))∧w=w':=by
  have hd:=data_at s 0 hp;cases hb:bts s with
  | nil=>rw [hb] at hd;simp at hd
  | cons c r =>
    rw [hb] at hd;have hc0:c=s[0]:=by simpa using hd
    have hln:r.length+1=s.size:=by rw [← bts_len,hb];rfl
    by_cases hc:c=45
    · have h1:(((s[0]'hp).toNat:Int) == 45)=true:=by rw [← hc0,hc];rfl
      have hx:s.extract 1 s.size=str r:=by
        rw [← hln,show r.length+1=1+r.length from by omega,cut_str,hb];simp
      have:=number_neg s (str r) hp hs h1 hx r.length (str_size r) (by omega) w;rw [bts_str] at this;have e2:LX.number (c::r)=(r.all dig && decide (0 < r.length)):=by subst hc;rfl
      rw [e2];exact this
    · have h1:(((s[0]'hp).toNat:Int) == 45)=false:=by
        rw [← hc0,beq_eq_false_iff_ne];intro h;exact hc (UInt8.toNat_inj.1 (by rw [show (45:UInt8).toNat=45 from rfl];omega))
      have:=number_pos s s.size rfl hp hs h1 w;rw [hb] at this;have e2:LX.number (c::r)=((c::r).all dig && decide (0 < (c::r).length)):=by unfold LX.number unsign;simp only [if_neg hc]
      rw [e2,show (c::r).length=s.size from hln];exact this
set_option maxHeartbeats 1000000 in
theorem value_pos (x:ByteArray) (hp:0 < x.size) (hn:x.size≤14) (hd:(bts x).all dig=true) (w:World):Calls Tryz.prog 96 #[.string x] w fun e w'=>e = .returned (.int .i64 (LX.val (bts x)))∧w=w':=by
  have h1:(((x[0]'hp).toNat:Int) == 45)=false:=by
    have:=dig_yes (dig_at hd hp);rw [beq_eq_false_iff_ne];omega
  have HD:=Lib.hid hd;obtain ⟨n,hls⟩:∃ n,x.size=n:=⟨_,rfl⟩
  have hres:LX.val (bts x)=LX.val ((bts x).take n):=by rw [List.take_of_length_le];rw [bts_len,hls];exact Nat.le_refl _
  rw [hres];have hv0:LX.val ((bts x).take 0)=0:=by rw [List.take_zero];rfl
  have HV0:=Lib.hid hv0;clear hd hres hv0;go_enter Tryz.func96,Tryz.ntmps96
  go_wp2
  go_loop [3,4] (fun a i=>∃ k:Nat,k≤n∧a = .int .i64 (LX.val ((bts x).take k))∧i = .int .i64 (k:Int)) (fun a i=>n - (intOf i).toNat)
  case atStart=>exact ⟨0,by omega,by rw [HV0.out],rfl⟩
  case round =>
    obtain ⟨k,hk,rfl,rfl⟩:=hrel;by_cases hlt:k < n
    · have hks:k < x.size:=by omega
      have HS:=Lib.hid (val_step hks);obtain ⟨b1,b2⟩:=val_take (k:=k) HD.out (by omega);obtain ⟨g1,g2⟩:=dig_yes (dig_at HD.out hks);generalize LX.val ((bts x).take k)=v at *;obtain ⟨q,hq⟩:∃ q:Nat,(x[k]).toNat=q:=⟨_,rfl⟩
      rw [hq] at g1 g2;have HQ:=Lib.hid hq;go_wp2
      go_round
      case rel=>exact ⟨k+1,by omega,by rw [HS.out,HQ.out] <;> go_num,by go_num⟩
      case measure=>simp [intOf];omega
    · obtain rfl:k=n:=by omega
      go_wp2;go_ret
      exact ⟨rfl,rfl⟩
set_option maxHeartbeats 1000000 in
theorem value_any (s:ByteArray) (hp:0 < s.size) (hn:s.size≤14) (hd:LX.number (bts s)=true) (w:World):Calls Tryz.prog 96 #[.string s] w fun e w'=>e = .returned (.int .i64 (LX.value (bts s)))∧w=w':=by
  have hd0:=data_at s 0 hp;cases hb:bts s with
  | nil=>rw [hb] at hd0;simp at hd0
  | cons c r =>
    rw [hb] at hd0 hd;have hc0:c=s[0]:=by simpa using hd0
    have hln:r.length+1=s.size:=by rw [← bts_len,hb];rfl
    by_cases hc:c=45
    · have h1:(((s[0]'hp).toNat:Int) == 45)=true:=by rw [← hc0,hc];rfl
      have hx:s.extract 1 s.size=str r:=by
        rw [← hln,show r.length+1=1+r.length from by omega,cut_str,hb];simp
      have e2:LX.number (c::r)=(r.all dig && decide (0 < r.length)):=by subst hc;rfl
      rw [e2,Bool.and_eq_true] at hd;have e3:LX.value (c::r) = - LX.val r:=by subst hc;rfl
      rw [e3];have hr0:0 < r.length:=by simpa using hd.2
      have hv:=value_pos (str r) (by rw [str_size];exact hr0) (by rw [str_size];omega) (by rw [bts_str];exact hd.1) w;rw [bts_str] at hv;obtain ⟨b1,b2⟩:=val_small r hd.1 (by omega);have HX:=Lib.hid hx;have HV:=Lib.hid hv;have hp1:1≤s.size:=hp;generalize LX.val r=v at *;clear hx hv hd e2 e3 hb hc0 hc hd0 hln hr0;go_enter Tryz.func96,Tryz.ntmps96
      go_wp2_with (rw [HX.out];go_at_call 96;refine HV.out.mono ?_;rintro e w' ⟨rfl,rfl⟩)
      go_ret
      exact ⟨rfl,rfl⟩
    · have e2:LX.number (c::r)=((c::r).all dig && decide (0 < (c::r).length)):=by unfold LX.number unsign;simp only [if_neg hc]
      rw [e2,Bool.and_eq_true] at hd;have e3:LX.value (c::r)=LX.val (c::r):=by unfold LX.value;simp only [if_neg hc]
      rw [e3,← hb];exact value_pos s hp hn (by rw [hb];exact hd.1) w
end LW
end Go.Proofs.YtehgmmbdlnginaaGreatDoor
namespace Go.Proofs.YtehgmmbdlnginaaGreatDoor
open Go.RowKit
namespace LW
open LX
theorem tok_info:(Tryz.prog.info? 81).map (fun i=>(i.zero,i.size,i.bytes))=some (some (.agg #[.int .u8 0,.int .i64 0,.int .i64 0,.string ⟨#[]⟩]),4,40):=by kernel_rfl
def tokV (kd a n:Int) (s:ByteArray):Value:=.agg #[.int .u8 kd,.int .i64 a,.int .i64 n,.string s]
def oneV (a:Int):St→Value
  | .tok kd n s _=>.tuple #[tokV kd a n s,.int .i64 0]
  | .err e=>.tuple #[tokV 0 0 0 emp,.int .i64 e]
  | .skip _=>.bool false
set_option maxHeartbeats 1000000 in
theorem one_any (s:ByteArray) (a:Nat) (hp:0 < s.size) (hm:s.size≤5000) (w:World) :
    Calls Tryz.prog 52 #[.string s,.int .i64 a] w fun e w'=>e = .returned (oneV a (LX.one (bts s)))∧Below w.heap.size w w':=by
  have hN:=Lib.hid (number_any s hp hm);have hlen:=bts_len s;by_cases hb:LX.number (bts s)=true
  · rw [hb] at hN;have hb':¬ (LX.number (bts s)=false):=by rw [hb];decide
    by_cases h14:14 < s.size
    · have e1:LX.one (bts s) = .err 51:=by unfold LX.one;rw [if_neg hb',if_pos (by omega)]
      rw [e1];clear e1 hb hb' hlen;go_enter Tryz.func52,Tryz.ntmps52
      go_wp2_with (go_at_call 95;refine (hN.out _).mono ?_;rintro e w' ⟨rfl,rfl⟩)
      exact bodyPost_ret (v:=.tuple #[.agg #[.int .u8 0,.int .i64 0,.int .i64 0,.string ⟨#[]⟩],.int .i64 51]) (by simp [results,Tryz.results52,go_sem]) rfl ⟨rfl,(Below.refl _ _).alloc (Nat.le_refl _) _⟩
    · have hV:=Lib.hid (value_any s hp (by omega) hb);obtain ⟨v,hv⟩:∃ v,LX.value (bts s)=v:=⟨_,rfl⟩
      by_cases h13:13 < s.size
      · have e1:LX.one (bts s) = .err 51:=by unfold LX.one;rw [if_neg hb',if_pos (by omega)]
        rw [e1];rw [hv] at hV;clear e1 hb hb' hlen hv;go_enter Tryz.func52,Tryz.ntmps52
        go_wp2_with (first | (go_at_call 95;refine (hN.out _).mono ?_;rintro e w' ⟨rfl,rfl⟩) | (go_at_call 96;refine (hV.out _).mono ?_;rintro e w' ⟨rfl,rfl⟩))
        exact bodyPost_ret (v:=.tuple #[.agg #[.int .u8 0,.int .i64 0,.int .i64 0,.string ⟨#[]⟩],.int .i64 51]) (by simp [results,Tryz.results52,go_sem]) rfl ⟨rfl,(Below.refl _ _).alloc (Nat.le_refl _) _⟩
      · by_cases h1:v≤-1099511627776
        · have e1:LX.one (bts s) = .err 51:=by unfold LX.one;rw [if_neg hb',if_neg (by omega),hv,if_pos (.inl h1)]
          rw [e1];rw [hv] at hV;clear e1 hb hb' hlen hv;go_enter Tryz.func52,Tryz.ntmps52
          go_wp2_with (first | (go_at_call 95;refine (hN.out _).mono ?_;rintro e w' ⟨rfl,rfl⟩) | (go_at_call 96;refine (hV.out _).mono ?_;rintro e w' ⟨rfl,rfl⟩))
          exact bodyPost_ret (v:=.tuple #[.agg #[.int .u8 0,.int .i64 0,.int .i64 0,.string ⟨#[]⟩],.int .i64 51]) (by simp [results,Tryz.results52,go_sem]) rfl ⟨rfl,(Below.refl _ _).alloc (Nat.le_refl _) _⟩
        · by_cases h2:1099511627776≤v
          · have e1:LX.one (bts s) = .err 51:=by unfold LX.one;rw [if_neg hb',if_neg (by omega),hv,if_pos (.inr h2)]
            rw [e1];rw [hv] at hV;clear e1 hb hb' hlen hv;go_enter Tryz.func52,Tryz.ntmps52
            go_wp2_with (first | (go_at_call 95;refine (hN.out _).mono ?_;rintro e w' ⟨rfl,rfl⟩) | (go_at_call 96;refine (hV.out _).mono ?_;rintro e w' ⟨rfl,rfl⟩))
            exact bodyPost_ret (v:=.tuple #[.agg #[.int .u8 0,.int .i64 0,.int .i64 0,.string ⟨#[]⟩],.int .i64 51]) (by simp [results,Tryz.results52,go_sem]) rfl ⟨rfl,(Below.refl _ _).alloc (Nat.le_refl _) _⟩
          · have e1:LX.one (bts s) = .tok 4 v emp (bts s).length:=by unfold LX.one;rw [if_neg hb',if_neg (by omega),hv,if_neg (by omega)]
            rw [e1];rw [hv] at hV;clear e1 hb hb' hlen hv;go_enter Tryz.func52,Tryz.ntmps52
            go_wp2_with (first | (go_at_call 95;refine (hN.out _).mono ?_;rintro e w' ⟨rfl,rfl⟩) | (go_at_call 96;refine (hV.out _).mono ?_;rintro e w' ⟨rfl,rfl⟩))
            exact bodyPost_ret (v:=.tuple #[.agg #[.int .u8 4,.int .i64 a,.int .i64 v,.string ⟨#[]⟩],.int .i64 0]) (by simp [results,Tryz.results52,go_sem]) rfl ⟨rfl,(Below.refl _ _).alloc (Nat.le_refl _) _⟩
  · have hb:LX.number (bts s)=false:=by simpa using hb
    rw [hb] at hN;by_cases h32:32 < s.size
    · have e1:LX.one (bts s) = .err 3:=by unfold LX.one;rw [if_pos hb,hlen,if_pos h32]
      rw [e1];clear e1 hb hlen;go_enter Tryz.func52,Tryz.ntmps52
      go_wp2_with (go_at_call 95;refine (hN.out _).mono ?_;rintro e w' ⟨rfl,rfl⟩)
      exact bodyPost_ret (v:=.tuple #[.agg #[.int .u8 0,.int .i64 0,.int .i64 0,.string ⟨#[]⟩],.int .i64 3]) (by simp [results,Tryz.results52,go_sem]) rfl ⟨rfl,(Below.refl _ _).alloc (Nat.le_refl _) _⟩
    · have e1:LX.one (bts s) = .tok 6 0 s (bts s).length:=by unfold LX.one;rw [if_pos hb,hlen,if_neg h32,str_bts]
      rw [e1];clear e1 hb hlen;go_enter Tryz.func52,Tryz.ntmps52
      go_wp2_with (go_at_call 95;refine (hN.out _).mono ?_;rintro e w' ⟨rfl,rfl⟩)
      exact bodyPost_ret (v:=.tuple #[.agg #[.int .u8 6,.int .i64 a,.int .i64 0,.string s],.int .i64 0]) (by simp [results,Tryz.results52,go_sem]) rfl ⟨rfl,(Below.refl _ _).alloc (Nat.le_refl _) _⟩
end LW
end Go.Proofs.YtehgmmbdlnginaaGreatDoor
namespace Go.Proofs.YtehgmmbdlnginaaGreatDoor
open Go.RowKit
namespace LX
def cellsT (t:Tk):List Value:=[.int .u8 t.kind,.int .i64 t.at_,.int .i64 t.n,.string t.s]
def tks (ts:List Tk):List Value:=ts.flatMap cellsT
theorem tks_snoc (ts:List Tk) (t:Tk):tks (ts++[t])=tks ts++cellsT t:=by simp [tks]
theorem tks_len (ts:List Tk):(tks ts).length=ts.length*4:=by
  induction ts with
  | nil=>rfl
  | cons t ts ih=>simp only [tks,List.flatMap_cons,List.length_append,List.length_cons] at ih ⊢;rw [ih];simp [cellsT];omega
end LX
namespace LW
open LX
theorem toks_slice:Tryz.prog.underlying 72=some (.slice 81):=by kernel_rfl
structure Lx (w0 w:World) (v:Value) (out:List Tk):Prop where
  own:w.ownsRow w0.heap.size 81 4 v out.length (tks out)
  far:MM.Far [] w0 w
theorem Lx.begin (w:World):Lx w w (.slice none 0 0) []:=⟨MO.none_ _ _ _ _,MM.Far.refl _ _⟩
theorem Lx.to {w0 w w':World} {v:Value} {out:List Tk} (h:Lx w0 w v out) (f:MM.Far [] w w'):Lx w0 w' v out :=
  ⟨MM.own_far h.own f (by simp),h.far.trans f (by simp)⟩
theorem cellsT_one (t:Tk):∀ u∈cellsT t,u.oneCell'=true:=by
  intro u hu;simp only [cellsT,List.mem_cons,List.not_mem_nil,or_false] at hu
  rcases hu with rfl | rfl | rfl | rfl <;> rfl
theorem lx_push {ops:Array Oper} {rest:List Oper} {o:Oper} {a:Act} {Q:Exit→Act→World→Prop} (w0 w:World) (v:Value) (out:List Tk) (t:Tk) (hL:Lx w0 w v out) (hlen:out.length≤100000)
    (hgd:o.guard=none) (s x:Operand) (ho:o.op = .call { callee:=.builtin .append,args:=#[s,x],argTypes:=#[72,72] })
    (hs:a.eval s=v) (hx:a.eval x = .slice (some ⟨w.heap.size,0,none⟩) 1 1)
    (h:∀ v' w',Lx w0 w' v' (out++[t])→wpList Tryz.prog ops Q rest (a.put o.dst v') w') :
    wpList Tryz.prog ops Q (o::rest) a (w.alloc (.cells #[.int .u8 t.kind,.int .i64 t.at_,.int .i64 t.n,.string t.s] 81)):=by
  have hF:MM.Far [] w (w.alloc (.cells #[.int .u8 t.kind,.int .i64 t.at_,.int .i64 t.n,.string t.s] 81)):=(MM.Far.refl [] w).alloc _;have hL2:=hL.to hF;have hb:=hL2.far.size;refine MO.wpList_append _ hgd s x 72 ho w0.heap.size 81 (.agg #[.int .u8 0,.int .i64 0,.int .i64 0,.string ⟨#[]⟩]) 4 40 toks_slice tok_info rfl (by omega) v out.length (tks out) hs hL2.own (some ⟨w.heap.size,0,none⟩) 1 1 (cellsT t) hx rfl (fun h=>by cases h) [] ?_ (cellsT_one t) ?_ ?_ hb ?_
  · exact MM.Src.row (MM.Row.new w 81 (cellsT t)) (by simp) _ (fun j u hu=>hu)
  · simp only [maxLen];omega
  · omega
  · intro v' w' hv hg hat;refine h v' w' ⟨?_,?_⟩
    · rw [tks_snoc,List.length_append];exact hv
    · refine hL2.far.trans (MM.Far.of_grown (S:=v.ownBlock.toList) hg (fun b hb _=>by simp [hb])) ?_
      intro b hb hlt;have:=(MM.own_lt hL.own b (by simpa using hb)).2;omega
def LexP (w0:World) (R:Except (Nat × Int) (List Tk)) (e:Ending) (w:World):Prop :=
  MM.Far [] w0 w∧match R with
  | .error (p,x)=>e = .returned (.tuple #[.slice none 0 0,.int .i64 (p:Int),.int .i64 x])
  | .ok ts=>∃ v,e = .returned (.tuple #[v,.int .i64 0,.int .i64 0])∧w.ownsRow w0.heap.size 81 4 v ts.length (tks ts)
theorem LexP.err {w0 w:World} {R:Except (Nat × Int) (List Tk)} {p:Nat} {x:Int} (f:MM.Far [] w0 w) (h:R = .error (p,x)):LexP w0 R (.returned (.tuple #[.slice none 0 0,.int .i64 (p:Int),.int .i64 x])) w:=by
  subst h;exact ⟨f,rfl⟩
theorem Lx.done {w0 w:World} {R:Except (Nat × Int) (List Tk)} {v:Value} {out:List Tk} (h:Lx w0 w v out) (hR:R = .ok out):LexP w0 R (.returned (.tuple #[v,.int .i64 0,.int .i64 0])) w:=by
  subst hR;exact ⟨h.far,v,rfl,h.own⟩
end LW
end Go.Proofs.YtehgmmbdlnginaaGreatDoor
namespace Go.Proofs.YtehgmmbdlnginaaGreatDoor
open Go.RowKit
namespace LX
theorem step_blank {c:UInt8} {r:List UInt8} (h:blank c=true):step (c::r) = .skip 1:=by unfold step;simp [h]
theorem step_note {c:UInt8} {r:List UInt8} (h:blank c=false) (h2:c=59):step (c::r) = .skip (note (c::r)).length:=by unfold step;simp only [];rw [if_neg (by rw [h];decide),if_pos h2]
theorem step_mark {c:UInt8} {r:List UInt8} (h:blank c=false) (h2:c≠59) (h3:mark c≠0):step (c::r) = .tok (mark c) 0 emp 1:=by unfold step;simp [h,h2,h3]
theorem step_hash {c:UInt8} {r:List UInt8} (h:blank c=false) (h2:c≠59) (h3:mark c=0) (h4:c=35) :
    step (c::r)=if word r=[116] then .tok 5 1 emp 2 else if word r=[102] then .tok 5 0 emp 2 else .err 50:=by unfold step;simp only [];rw [if_neg (by rw [h];decide),if_neg h2,if_neg (fun h=>h h3),if_pos h4]
theorem step_bad {c:UInt8} {r:List UInt8} (h:blank c=false) (h2:c≠59) (h3:mark c=0) (h4:c≠35) (h5:let_ c=false):step (c::r) = .err 50:=by unfold step;simp [h,h2,h3,h4,h5]
theorem step_one {c:UInt8} {r:List UInt8} (h:blank c=false) (h2:c≠59) (h3:mark c=0) (h4:c≠35) (h5:let_ c=true):step (c::r)=one (word (c::r)):=by unfold step;simp [h,h2,h3,h4,h5]
theorem blank_no {c:UInt8} (h:blank c=false):c≠32∧c≠9∧c≠10:=by
  simp [blank] at h;exact ⟨h.1.1,h.1.2,h.2⟩
end LX
namespace LW
open LX
theorem eq_yes {c d:UInt8} {n:Int} (h:c=d) (e:(d.toNat:Int)=n):(((c.toNat:Int)) == n)=true:=by rw [h,e];simp
theorem eq_no {c d:UInt8} {n:Int} (h:c≠d) (e:(d.toNat:Int)=n):(((c.toNat:Int)) == n)=false:=by
  rw [beq_eq_false_iff_ne,← e];intro h2;exact h (UInt8.toNat_inj.1 (by omega))
theorem drop_cons (s:ByteArray) (i:Nat) (h:i < s.size):(bts s).drop i=s[i]::(bts s).drop (i+1):=by
  rw [List.drop_eq_getElem_cons (by rw [bts_len];exact h),at_bts s i h];rfl
theorem list_eq (a:ByteArray):a.toList=bts a:=Lib.toList_data a
theorem str_yes {l m:List UInt8} (h:l=m):((str l).toList == m)=true:=by
  rw [list_eq,bts_str,h];simp
theorem str_no {l m:List UInt8} (h:l≠m):((str l).toList == m)=false:=by
  rw [beq_eq_false_iff_ne,list_eq,bts_str];exact h
theorem one_err {w:List UInt8} {e:Int} (h:LX.one w = .err e):(e == 0)=false:=by
  unfold LX.one at h;split at h
  · split at h
    · injection h with h;subst h;rfl
    · cases h
  · split at h
    · injection h with h;subst h;rfl
    · split at h
      · injection h with h;subst h;rfl
      · cases h
theorem lex_skip {s:ByteArray} {i k:Nat} {out:List Tk} {R:Except (Nat × Int) (List Tk)} (hi:i < s.size) (hR:lexL ((bts s).drop i) i out=R) (h:LX.step (s[i]::(bts s).drop (i+1))=St.skip k):lexL ((bts s).drop (i+k)) (i+k) out=R:=by
  rw [drop_cons s i hi,lexL_step,h] at hR;rw [← hR];simp only
  rw [← drop_cons s i hi,List.drop_drop]
theorem lex_tok {s:ByteArray} {i k:Nat} {out:List Tk} {R:Except (Nat × Int) (List Tk)} {kd n:Int} {z:ByteArray} (hi:i < s.size) (hR:lexL ((bts s).drop i) i out=R) (h:LX.step (s[i]::(bts s).drop (i+1))=St.tok kd n z k):lexL ((bts s).drop (i+k)) (i+k) (out++[⟨kd,i,n,z⟩])=R:=by
  rw [drop_cons s i hi,lexL_step,h] at hR;rw [← hR];simp only
  rw [← drop_cons s i hi,List.drop_drop]
theorem lex_err {s:ByteArray} {i:Nat} {out:List Tk} {R:Except (Nat × Int) (List Tk)} {e:Int} (hi:i < s.size) (hR:lexL ((bts s).drop i) i out=R) (h:LX.step (s[i]::(bts s).drop (i+1))=St.err e):R = .error (i,e):=by
  rw [drop_cons s i hi,lexL_step,h] at hR;exact hR.symm
theorem lex_fits {s:ByteArray} {i:Nat} (hi:i < s.size):(∃ e,LX.step (s[i]::(bts s).drop (i+1))=St.err e)∨i+adv (LX.step (s[i]::(bts s).drop (i+1)))≤s.size:=by
  rcases step_adv s[i] ((bts s).drop (i+1)) with h | ⟨_,h⟩
  · exact .inl h
  · right
    rw [← drop_cons s i hi,List.length_drop,bts_len,drop_cons s i hi] at h;omega
def LI (s:ByteArray) (w0:World) (R:Except (Nat × Int) (List Tk)) (i:Nat) (v:Value) (out:List Tk) (w:World):Prop :=
  Lx w0 w v out∧out.length≤i∧lexL ((bts s).drop i) i out=R
set_option maxRecDepth 20000 in
set_option maxHeartbeats 4000000 in
theorem rlex_in (s:ByteArray) (hs:s.size≤4000) (w:World) :
    Calls Tryz.prog 27 #[.string s] w (LexP w (LX.lex s)):=by
  have hR0:LX.lex s=lexL (bts s) 0 []:=by unfold LX.lex;rw [if_neg (by omega)]
  obtain ⟨R,hR⟩:∃ R,lexL ((bts s).drop 0) 0 []=R:=⟨_,rfl⟩
  have hRr:LX.lex s=R:=by rw [hR0,← hR];rfl
  rw [hRr];have HB:Hid (LI s w R 0 (.slice none 0 0) [] w):=Lib.hid ⟨Lx.begin w,Nat.le_refl _,hR⟩;have HEND:Hid (∀ v out w2,LI s w R s.size v out w2→LexP w R (.returned (.tuple #[v,.int .i64 0,.int .i64 0])) w2):=Lib.hid (by
    intro v out w2 h;refine h.1.done ?_
    have:=h.2.2;rw [List.drop_eq_nil_of_le (by rw [bts_len];exact Nat.le_refl _),lexL_nil] at this;exact this.symm)
  clear hR0 hR hRr;go_enter Tryz.func27,Tryz.ntmps27
  go_wp2
  go_loopw [5,6] (fun s5 s6 wr=>∃ (i:Nat) (v:Value) (out:List Tk),i≤s.size∧v=s5∧s6 = .int .i64 i∧Hid (LI s w R i v out wr)) (fun _ s6 _=>s.size - (intOf s6).toNat)
  case atStart=>exact ⟨0,_,_,by omega,rfl,rfl,HB⟩
  case round =>
    obtain ⟨i,v,out,hi,rfl,rfl,hI⟩:=hrel;by_cases hlt:i < s.size
    · have HF:=Lib.hid (lex_fits hlt);by_cases hb:LX.blank s[i]=true
      · have HN:Hid (LI s w R (i+1) v out wr):=Lib.hid ⟨hI.out.1,by have:=hI.out.2.1;omega,lex_skip hlt hI.out.2.2 (step_blank hb)⟩;by_cases h1:s[i]=32
        · have d1:=eq_yes h1 (n:=32) rfl;clear hb h1;go_wp2;go_roundw
          case rel=>exact ⟨i+1,v,out,by omega,rfl,by go_num,HN⟩
          case measure=>simp [intOf];omega
        · have d1:=eq_no h1 (n:=32) rfl;by_cases h2:s[i]=9
          · have d2:=eq_yes h2 (n:=9) rfl;clear hb h1 h2;go_wp2;go_roundw
            case rel=>exact ⟨i+1,v,out,by omega,rfl,by go_num,HN⟩
            case measure=>simp [intOf];omega
          · have d2:=eq_no h2 (n:=9) rfl;have h3:s[i]=10:=by simpa [LX.blank,h1,h2] using hb
            have d3:=eq_yes h3 (n:=10) rfl;clear hb h1 h2 h3;go_wp2;go_roundw
            case rel=>exact ⟨i+1,v,out,by omega,rfl,by go_num,HN⟩
            case measure=>simp [intOf];omega
      · have hb:LX.blank s[i]=false:=by simpa using hb
        obtain ⟨b1,b2,b3⟩:=blank_no hb;have d1:=eq_no b1 (n:=32) rfl;have d2:=eq_no b2 (n:=9) rfl;have d3:=eq_no b3 (n:=10) rfl;clear b1 b2 b3;by_cases h4:s[i]=59
        · have d4:=eq_yes h4 (n:=59) rfl;obtain ⟨n,hn⟩:∃ n,(note (s[i]::(bts s).drop (i+1))).length=n:=⟨_,rfl⟩
          have hst:=step_note (r:=(bts s).drop (i+1)) hb h4;rw [hn] at hst;have hle:i+n≤s.size:=by
            rcases HF.out with ⟨e,he⟩ | h
            · rw [hst] at he;cases he
            · rw [hst] at h;exact h
          have hn0:0 < n:=by rw [← hn,h4];simp [note]
          have HN:Hid (LI s w R (i+n) v out wr):=Lib.hid ⟨hI.out.1,by have:=hI.out.2.1;omega,lex_skip hlt hI.out.2.2 hst⟩;rw [← drop_cons s i hlt] at hn;have HY:Hid (∀ j (h:i+j < s.size),j < n→s[i+j]≠10):=Lib.hid (by
            intro j h hj;obtain ⟨x,h1,h2⟩:=tw_yes (p:=fun c=>c != 10) (l:=(bts s).drop i) (j:=j) (by unfold note at hn;omega);rw [drop_at s i j h] at h1;cases h1;simpa using h2)
          have HNo:Hid (∀ (h:i+n < s.size),s[i+n]=10):=Lib.hid (by
            intro h;unfold note at hn;obtain ⟨x,h1,h2⟩:=tw_no (p:=fun c=>c != 10) (l:=(bts s).drop i) (by rw [List.length_drop,bts_len];omega);rw [hn,drop_at s i n h] at h1;cases h1;simpa using h2)
          clear hb h4 hst hn HF;go_wp2
          go_loop [6] (fun s6=>∃ j:Nat,j≤n∧s6 = .int .i64 ((i+j:Nat):Int)) (fun s6=>s.size - (intOf s6).toNat)
          case atStart=>exact ⟨0,by omega,rfl⟩
          case round =>
            obtain ⟨j,hj,rfl⟩:=hrel;obtain ⟨t,ht⟩:∃ t,t=i+j:=⟨_,rfl⟩
            rw [← ht];clear d1 d2 d3 d4;by_cases hlt2:t < s.size
            · by_cases hjn:j < n
              · have d10:(((s[t]).toNat:Int) == 10)=false:=eq_no (d:=10) (by rw [show s[t]=s[i+j]'(by omega) from by congr 1];exact HY.out j (by omega) hjn) rfl;have HT:=Lib.hid ht;clear ht;go_wp2
                go_round
                case rel=>exact ⟨j+1,by omega,by have:=HT.out;go_num⟩
                case measure=>simp [intOf];omega
              · have hjn2:j=n:=by omega
                have d10:(((s[t]).toNat:Int) == 10)=true:=eq_yes (d:=10) (by rw [show s[t]=s[i+n]'(by omega) from by congr 1;omega];exact HNo.out (by omega)) rfl;have HT:=Lib.hid (show t=i+n by omega);have hti:i < t:=by omega
                have hts:t≤s.size:=by omega
                clear ht hj hjn hjn2;go_wp2;go_roundw
                case rel=>exact ⟨t,v,out,hts,rfl,rfl,HT.out ▸ HN⟩
                case measure=>simp [intOf];omega
            · have hts:t≤s.size:=by omega
              have HT:=Lib.hid (show t=i+n by omega);have hti:i < t:=by omega
              clear ht hj;go_wp2;go_roundw
              case rel=>exact ⟨t,v,out,hts,rfl,rfl,HT.out ▸ HN⟩
              case measure=>simp [intOf];omega
        · have d4:=eq_no h4 (n:=59) rfl;have HM:=Lib.hid (mark_any s[i]);have HL:=Lib.hid hI.out.1;have ho:=hI.out.2.1;have HR:=Lib.hid hI.out.2.2;clear hI;by_cases h5:LX.mark s[i]=0
          · rw [h5] at HM;by_cases h6:s[i]=35
            · have d6:=eq_yes h6 (n:=35) rfl;have HS:=Lib.hid (step_hash (r:=(bts s).drop (i+1)) hb h4 h5 h6);have HW:Hid (∀ w,Calls Tryz.prog 50 #[.string s,.int .i64 ((i:Int)+1)] w fun e w'=>e = .returned (.string (str (LX.word ((bts s).drop (i+1)))))∧w=w'):=Lib.hid (word_any s (i+1) (by omega) (by omega));by_cases h7:LX.word ((bts s).drop (i+1))=[116]
              · have d7:=str_yes (m:=[116]) h7;have d8:=str_no (m:=[102]) (show LX.word ((bts s).drop (i+1))≠[102] by rw [h7];decide);generalize str (LX.word ((bts s).drop (i+1)))=z at HW d7 d8;have hst:=HS.out;rw [if_pos h7] at hst;have HN:=Lib.hid (lex_tok hlt HR.out hst);have hle:i+2≤s.size:=by
                  rcases HF.out with ⟨e,he⟩ | h
                  · rw [hst] at he;cases he
                  · rw [hst] at h;exact h
                clear hb h4 h5 h6 h7 hst HF HS HR
                go_wp2_with (first
                  | (go_at_call 49;refine (HM.out _).mono ?_;rintro e w2 ⟨rfl,rfl⟩)
                  | (go_at_call 50;refine (HW.out _).mono ?_;rintro e w2 ⟨rfl,rfl⟩)
                  | (refine lx_push w wr v out ⟨5,i,1,emp⟩ HL.out (by omega) rfl (.tmp 77) (.tmp 81) rfl rfl rfl ?_;intro v' w2 hL2;have HL2:=Lib.hid hL2;clear hL2))
                go_roundw
                case rel=>exact ⟨i+2,v',_,by omega,rfl,by go_num,Lib.hid ⟨HL2.out,by simp;omega,HN.out⟩⟩
                case measure=>simp [intOf];omega
              · by_cases h8:LX.word ((bts s).drop (i+1))=[102]
                · have d7:=str_no (m:=[116]) h7;have d8:=str_yes (m:=[102]) h8;generalize str (LX.word ((bts s).drop (i+1)))=z at HW d7 d8;have hst:=HS.out;rw [if_neg h7,if_pos h8] at hst;have HN:=Lib.hid (lex_tok hlt HR.out hst);have hle:i+2≤s.size:=by
                    rcases HF.out with ⟨e,he⟩ | h
                    · rw [hst] at he;cases he
                    · rw [hst] at h;exact h
                  clear hb h4 h5 h6 h7 h8 hst HF HS HR
                  go_wp2_with (first
                    | (go_at_call 49;refine (HM.out _).mono ?_;rintro e w2 ⟨rfl,rfl⟩)
                    | (go_at_call 50;refine (HW.out _).mono ?_;rintro e w2 ⟨rfl,rfl⟩)
                    | (refine lx_push w wr v out ⟨5,i,0,emp⟩ HL.out (by omega) rfl (.tmp 77) (.tmp 81) rfl rfl rfl ?_;intro v' w2 hL2;have HL2:=Lib.hid hL2;clear hL2))
                  go_roundw
                  case rel=>exact ⟨i+2,v',_,by omega,rfl,by go_num,Lib.hid ⟨HL2.out,by simp;omega,HN.out⟩⟩
                  case measure=>simp [intOf];omega
                · have d7:=str_no (m:=[116]) h7;have d8:=str_no (m:=[102]) h8;generalize str (LX.word ((bts s).drop (i+1)))=z at HW d7 d8;have hst:=HS.out;rw [if_neg h7,if_neg h8] at hst;have HN:=Lib.hid (lex_err hlt HR.out hst);clear hb h4 h5 h6 h7 h8 hst HF HS HR
                  go_wp2_with (first
                    | (go_at_call 49;refine (HM.out _).mono ?_;rintro e w2 ⟨rfl,rfl⟩)
                    | (go_at_call 50;refine (HW.out _).mono ?_;rintro e w2 ⟨rfl,rfl⟩))
                  go_ret3
                  exact LexP.err HL.out.far HN.out
            · have d6:=eq_no h6 (n:=35) rfl;have HT:=Lib.hid (letter_any s[i]);by_cases h7:let_ s[i]=false
              · rw [h7] at HT;have HN:=Lib.hid (lex_err hlt HR.out (step_bad hb h4 h5 h6 h7));clear hb h4 h5 h6 h7 HF HR
                go_wp2_with (first
                  | (go_at_call 49;refine (HM.out _).mono ?_;rintro e w2 ⟨rfl,rfl⟩)
                  | (go_at_call 51;refine (HT.out _).mono ?_;rintro e w2 ⟨rfl,rfl⟩))
                go_ret3
                exact LexP.err HL.out.far HN.out
              · have h7:let_ s[i]=true:=by simpa using h7
                rw [h7] at HT;have HW:=Lib.hid (word_any s i hi (by omega));have hst:=step_one (r:=(bts s).drop (i+1)) hb h4 h5 h6 h7;rw [← drop_cons s i hlt] at hst;have hz0:0 < (LX.word ((bts s).drop i)).length:=by rw [drop_cons s i hlt];exact word_pos h7
                have hz1:i+(LX.word ((bts s).drop i)).length≤s.size:=by
                  have:=word_le ((bts s).drop i);rw [List.length_drop,bts_len] at this;omega
                have hz2:=str_size (LX.word ((bts s).drop i));have hz3:=bts_str (LX.word ((bts s).drop i));generalize str (LX.word ((bts s).drop i))=z at HW hz2 hz3;generalize LX.word ((bts s).drop i)=y at HW hst hz0 hz1 hz2 hz3;subst hz3;rw [← hz2] at hz0 hz1;have hO:=one_any z i hz0 (by omega);rw [← drop_cons s i hlt] at HF;rw [hst] at HF;cases h9:LX.one (bts z) with
                | skip k=>exact (one_skip h9).elim
                | err x =>
                  have de:=one_err h9;rw [h9] at hO hst;have HO:Hid (∀ w,Calls Tryz.prog 52 #[.string z,.int .i64 i] w fun e w'=>e = .returned (.tuple #[.agg #[.int .u8 0,.int .i64 0,.int .i64 0,.string ⟨#[]⟩],.int .i64 x])∧Below w.heap.size w w'):=Lib.hid hO;have HN:=Lib.hid (lex_err hlt HR.out (by rw [← drop_cons s i hlt];exact hst));clear hb h4 h5 h6 h7 h9 hst hO HF HR hz2
                  go_wp2_with (first
                    | (go_at_call 49;refine (HM.out _).mono ?_;rintro e w2 ⟨rfl,rfl⟩)
                    | (go_at_call 51;refine (HT.out _).mono ?_;rintro e w2 ⟨rfl,rfl⟩)
                    | (go_at_call 50;refine (HW.out _).mono ?_;rintro e w2 ⟨rfl,rfl⟩)
                    | (go_at_call 52;refine (HO.out _).mono ?_;rintro e w3 ⟨rfl,hBl⟩;have HB3:=Lib.hid (MM.Far.of_below hBl []);clear hBl))
                  go_ret3
                  exact LexP.err ((HL.out.far.trans HB3.out (by simp)).alloc _) HN.out
                | tok kd n sv k =>
                  have hk:=one_k h9;rw [bts_len] at hk;subst hk;rw [h9] at hO hst;have HO:Hid (∀ w,Calls Tryz.prog 52 #[.string z,.int .i64 i] w fun e w'=>e = .returned (.tuple #[.agg #[.int .u8 kd,.int .i64 i,.int .i64 n,.string sv],.int .i64 0])∧Below w.heap.size w w'):=Lib.hid hO;have HN:=Lib.hid (lex_tok hlt HR.out (by rw [← drop_cons s i hlt];exact hst));clear hb h4 h5 h6 h7 h9 hst hO HF HR hz2
                  go_wp2_with (first
                    | (go_at_call 49;refine (HM.out _).mono ?_;rintro e w2 ⟨rfl,rfl⟩)
                    | (go_at_call 51;refine (HT.out _).mono ?_;rintro e w2 ⟨rfl,rfl⟩)
                    | (go_at_call 50;refine (HW.out _).mono ?_;rintro e w2 ⟨rfl,rfl⟩)
                    | (go_at_call 52;refine (HO.out _).mono ?_;rintro e w3 ⟨rfl,hBl⟩;have HL3:=Lib.hid ((HL.out.to (MM.Far.of_below hBl [])).to ((MM.Far.refl [] w3).alloc (.cells #[.int .u8 kd,.int .i64 i,.int .i64 n,.string sv] 81)));clear hBl)
                    | (refine lx_push w _ v out ⟨kd,i,n,sv⟩ HL3.out (by omega) rfl (.tmp 102) (.tmp 104) rfl rfl (by rw [World.size_alloc];rfl) ?_;intro v' w2 hL2;have HL2:=Lib.hid hL2;clear hL2))
                  go_roundw
                  case rel=>exact ⟨i+z.size,v',_,by omega,rfl,by go_num,Lib.hid ⟨HL2.out,by simp;omega,HN.out⟩⟩
                  case measure=>simp [intOf];omega
          · have HN:=Lib.hid (lex_tok hlt HR.out (step_mark (r:=(bts s).drop (i+1)) hb h4 h5));have d5:(LX.mark s[i] == 0)=false:=by rw [beq_eq_false_iff_ne];exact h5
            generalize LX.mark s[i]=k at HM HN d5;clear hb h4 h5 HF HR
            go_wp2_with (first
              | (go_at_call 49;refine (HM.out _).mono ?_;rintro e w2 ⟨rfl,rfl⟩)
              | (refine lx_push w wr v out ⟨k,i,0,emp⟩ HL.out (by omega) rfl (.tmp 54) (.tmp 58) rfl rfl rfl ?_;intro v' w2 hL2;have HL2:=Lib.hid hL2;clear hL2))
            go_roundw
            case rel=>exact ⟨i+1,v',_,by omega,rfl,by go_num,Lib.hid ⟨HL2.out,by simp;omega,HN.out⟩⟩
            case measure=>simp [intOf];omega
    · obtain rfl:i=s.size:=by omega
      have HE:=Lib.hid (HEND.out v out wr hI.out);clear hI;go_wp2;go_ret3
      exact HE.out
end LW
end Go.Proofs.YtehgmmbdlnginaaGreatDoor
namespace Go.Proofs.YtehgmmbdlnginaaGreatDoor
open Go.RowKit
namespace LX
end LX
namespace LW
open LX
end LW
end Go.Proofs.YtehgmmbdlnginaaGreatDoor
namespace Go.Proofs.YtehgmmbdlnginaaGreatDoor
open Go.RowKit
namespace LW
open LX
theorem rlex_any (s:ByteArray) (hs:s.size≤140737488355328) (w:World):Calls Tryz.prog 27 #[.string s] w (LexP w (LX.lex s)):=by
  by_cases h:s.size≤4000
  · exact rlex_in s h w
  · have e:LX.lex s = .error (0,3):=by unfold LX.lex;rw [if_pos (by omega)]
    rw [e];clear e;go_enter Tryz.func27,Tryz.ntmps27
    go_wp2;go_ret3
    exact ⟨MM.Far.refl _ _,rfl⟩
def TkRow (w:World) (A:Option Addr) (ts:List Tk):Prop :=
  ∀ (k:Nat) (h:k < ts.length),∃ b o,A=some ⟨b,o,none⟩∧b < w.heap.size∧w.cell? ⟨b,o+k*4,none⟩=some (.int .u8 ts[k].kind)∧w.cell? ⟨b,o+k*4+1,none⟩=some (.int .i64 ts[k].at_) ∧
    w.cell? ⟨b,o+k*4+2,none⟩=some (.int .i64 ts[k].n)∧w.cell? ⟨b,o+k*4+3,none⟩=some (.string ts[k].s)
theorem tks_at (ts:List Tk) (k:Nat) (h:k < ts.length) (j:Nat) (hj:j < 4):(tks ts)[k*4+j]? = (cellsT ts[k])[j]?:=by
  induction ts generalizing k with
  | nil=>simp at h
  | cons t ts ih =>
    have e:tks (t::ts)=cellsT t++tks ts:=by simp [tks]
    rw [e];cases k with
    | zero=>rw [Nat.zero_mul,Nat.zero_add,List.getElem?_append_left (by simpa [cellsT] using hj)];rfl
    | succ k =>
      have hl:(cellsT t).length=4:=rfl;rw [List.getElem?_append_right (by omega),hl,show (k+1)*4+j - 4=k*4+j from by omega];exact ih k (by simpa using h)
theorem TkRow.of_src {w:World} {S:List Nat} {A:Option Addr} {ts:List Tk} (h:MM.Src w S A (tks ts)):TkRow w A ts:=by
  intro k hk;obtain ⟨ad,e,_,hl,hc⟩:=h (by rw [tks_len];omega);have c (j:Nat) (hj:j < 4) (u:Value) (hu:(cellsT ts[k])[j]? = some u):=hc (k*4+j) u ((tks_at ts k hk j hj).trans hu);obtain ⟨b,o,spot⟩:=ad;have h0:=hc 0 _ ((tks_at ts 0 (by omega) 0 (by omega)).trans rfl);rw [MR.add_zero_] at h0;obtain rfl:spot=none:=MR.spot_none h0;refine ⟨b,o,e,hl,?_,?_,?_,?_⟩
  · have:=c 0 (by omega) _ rfl;rw [MR.mk_add] at this;exact this
  · have:=c 1 (by omega) _ rfl;rw [MR.mk_add] at this;exact this
  · have:=c 2 (by omega) _ rfl;rw [MR.mk_add] at this;exact this
  · have:=c 3 (by omega) _ rfl;rw [MR.mk_add] at this;exact this
theorem TkRow.far {w w':World} {A:Option Addr} {ts:List Tk} (h:TkRow w A ts) (f:MM.Far [] w w'):TkRow w' A ts:=by
  intro k hk;obtain ⟨b,o,e,hb,c0,c1,c2,c3⟩:=h k hk;have g (x:Nat):w'.cell? ⟨b,x,none⟩=w.cell? ⟨b,x,none⟩:=f.cell (p:=⟨b,x,none⟩) hb (by simp);exact ⟨b,o,e,Nat.lt_of_lt_of_le hb f.size,(g _).trans c0,(g _).trans c1,(g _).trans c2,(g _).trans c3⟩
def LexQ (w0:World) (R:Except (Nat × Int) (List Tk)) (e:Ending) (w:World):Prop :=
  MM.Far [] w0 w∧match R with
  | .error (p,x)=>∃ A c,e = .returned (.tuple #[.slice A 0 c,.int .i64 (p:Int),.int .i64 x])∧(A=none→c=0)
  | .ok ts=>∃ A c,e = .returned (.tuple #[.slice A ts.length c,.int .i64 0,.int .i64 0])∧ts.length≤c∧c≤maxLen∧(A=none→c=0)∧MM.Src w [] A (tks ts)
theorem LexP.q {w0 w:World} {R:Except (Nat × Int) (List Tk)} {e:Ending} (h:LexP w0 R e w):LexQ w0 R e w:=by
  refine ⟨h.1,?_⟩
  have h2:=h.2;cases R with
  | error px=>obtain ⟨p,x⟩:=px;exact ⟨none,0,h2,fun _=>rfl⟩
  | ok ts =>
    obtain ⟨v,rfl,ho⟩:=h2;obtain ⟨A,c,rfl,k0,k1,k2,k3,_⟩:=MO.form ho;exact ⟨A,c,rfl,k1,k2,k0,k3 [] (by simp)⟩
theorem rlex_q (s:ByteArray) (hs:s.size≤140737488355328) (w:World):Calls Tryz.prog 27 #[.string s] w (LexQ w (LX.lex s)):=(rlex_any s hs w).mono fun _ _ h=>h.q
end LW
end Go.Proofs.YtehgmmbdlnginaaGreatDoor
