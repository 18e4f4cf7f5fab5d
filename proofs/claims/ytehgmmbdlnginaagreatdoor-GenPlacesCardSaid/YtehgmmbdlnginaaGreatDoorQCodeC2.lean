/-
  Several texts in one: WordWalks2,CodeMem,CodeC1,CodeC2.
-/
import Derived.Test.YtehgmmbdlnginaaGreatDoorProg
import Derived.Test.YtehgmmbdlnginaaGreatDoorQCodePlain
import Derived.Lib.Hide
import Derived.Deep.DeepCutAuto
namespace Go.Proofs.YtehgmmbdlnginaaGreatDoor
open Go.RowKit
namespace WW
theorem rbool_any (b:Bool) (w:World):Calls Tryz.prog 64 #[.bool b] w fun e w'=>e = .returned (.int .u64 (WP.boolW b))∧w=w':=by
  cases b
  all_goals
    go_enter Tryz.func64,Tryz.ntmps64
    go_wp2;go_ret
    exact ⟨rfl,rfl⟩
set_option maxHeartbeats 400000 in
theorem may_any (n:Int) (hu:WP.U n) (w:World):Calls Tryz.prog 128 #[.int .u64 n] w fun e w'=>e = .returned (.bool (WP.mayB n))∧w=w':=by
  have ha:=WP.and7 n hu;have hn0:0≤n:=hu.1;have hk0:0≤n % 8:=by omega
  have hk1:n % 8 < 8:=by omega
  have HU:=Lib.hid hu;clear hu;by_cases h:n=2∨n=10∨n=18∨n=26
  · rcases h with rfl | rfl | rfl | rfl
    all_goals
      go_enter Tryz.func128,Tryz.ntmps128
      go_wp2;go_ret
      exact ⟨rfl,rfl⟩
  · have h2:(n == 2)=false:=by rw [beq_eq_false_iff_ne];omega
    have h10:(n == 10)=false:=by rw [beq_eq_false_iff_ne];omega
    have h18:(n == 18)=false:=by rw [beq_eq_false_iff_ne];omega
    have h26:(n == 26)=false:=by rw [beq_eq_false_iff_ne];omega
    clear h;cases hi:WP.toIntB n
    · have H:=Lib.hid (WP.may_last n h2 h10 h18 h26 hi);go_enter Tryz.func128,Tryz.ntmps128
      go_wp2_with (first | (go_at_call 149;refine (toint_any _ HU.out _).mono ?_;rintro e w' ⟨rfl,rfl⟩) | (go_at_call 127;refine (to_any _ _ HU.out _).mono ?_;rintro e w' ⟨rfl,rfl⟩))
      go_ret
      exact ⟨ret_b H.out.symm,rfl⟩
    · have H:=Lib.hid (WP.may_yes n hi);go_enter Tryz.func128,Tryz.ntmps128
      go_wp2_with (first | (go_at_call 149;refine (toint_any _ HU.out _).mono ?_;rintro e w' ⟨rfl,rfl⟩) | (go_at_call 127;refine (to_any _ _ HU.out _).mono ?_;rintro e w' ⟨rfl,rfl⟩))
      go_ret
      exact ⟨ret_b H.out.symm,rfl⟩
set_option maxHeartbeats 400000 in
theorem rof_any (k n:Int) (w:World):Calls Tryz.prog 107 #[.int .i64 k,.int .i64 n] w fun e w'=>e = .returned (.tuple #[.int .u64 (WP.ofW k n),.int .i64 (WP.ofE k n)])∧w=w':=by
  cases h0:WP.kindB k
  · have hk:¬ (k=1∨k=3∨k=4):=by rw [← WP.kindB_iff,h0];simp
    have H:=Lib.hid (show WP.ofB k n=false by simp [WP.ofB,h0]);have h1:(k != 1)=true:=by rw [bne_iff_ne];omega
    have h3:(k != 3)=true:=by rw [bne_iff_ne];omega
    have h4:(k != 4)=true:=by rw [bne_iff_ne];omega
    clear hk h0;go_enter Tryz.func107,Tryz.ntmps107
    go_wp2;go_ret2
    exact ⟨ret_2 (by simp [WP.ofW,H.out]) (by simp [WP.ofE,H.out]),rfl⟩
  · by_cases h1:0≤n
    · by_cases h2:n < 1099511627776
      · have H:=Lib.hid (WP.ofB_mk k n h0 h1 h2);have hk:=(WP.kindB_iff k).1 h0;clear h0
        rcases hk with rfl | rfl | rfl
        all_goals
          go_enter Tryz.func107,Tryz.ntmps107
          go_wp2;go_ret2
          exact ⟨ret_2 (by simp [WP.ofW,H.out]) (by simp [WP.ofE,H.out]),rfl⟩
      · have H:=Lib.hid (WP.ofB_hi k n h2);have hk:=(WP.kindB_iff k).1 h0;clear h0
        rcases hk with rfl | rfl | rfl
        all_goals
          go_enter Tryz.func107,Tryz.ntmps107
          go_wp2;go_ret2
          exact ⟨ret_2 (by simp [WP.ofW,H.out]) (by simp [WP.ofE,H.out]),rfl⟩
    · have H:=Lib.hid (WP.ofB_lo k n h1);have hk:=(WP.kindB_iff k).1 h0;clear h0
      rcases hk with rfl | rfl | rfl
      all_goals
        go_enter Tryz.func107,Tryz.ntmps107
        go_wp2;go_ret2
        exact ⟨ret_2 (by simp [WP.ofW,H.out]) (by simp [WP.ofE,H.out]),rfl⟩
end WW
end Go.Proofs.YtehgmmbdlnginaaGreatDoor
namespace Go.Proofs.YtehgmmbdlnginaaGreatDoor
open Go.RowKit
namespace KW
open KP
@[reducible] def num (n:Int):Value:=.int .i64 n
@[reducible] def ints (l:List Int):List Value:=l.map fun n=>.int .i64 n
def cel (x:Ki):List Value:=[.int .u8 x.op,.int .i64 x.a,.int .i64 x.b,.int .u64 x.w]
@[reducible] def val (x:Ki):Value:=.agg #[.int .u8 x.op,.int .i64 x.a,.int .i64 x.b,.int .u64 x.w]
structure Wf (x:Ki):Prop where
  op0:0≤x.op
  op1:x.op < 256
  a:WP.I x.a
  b:WP.I x.b
  w:WP.U x.w
def Ir (w:World) (S:List Nat) (A:Option Addr) (l:List Ki):Prop :=
  ∀ (i:Nat) (x:Ki),l[i]? = some x→∃ b o,A=some ⟨b,o,none⟩∧b∉S∧b < w.heap.size∧∀ (j:Nat) (u:Value),(cel x)[j]? = some u→w.cell? ⟨b,o+i*4+j,none⟩=some u
section
variable {w w':World} {S S' T:List Nat} {A:Option Addr} {l:List Ki}
theorem Ir.far (h:Ir w S A l) (f:MM.Far T w w') (hT:∀ b∈T,b < w.heap.size→b∈S):Ir w' S A l:=by
  intro i x hx;obtain ⟨b,o,e,hb,hl,hc⟩:=h i x hx;exact ⟨b,o,e,hb,Nat.lt_of_lt_of_le hl f.size,fun j u hu=>(f.cell (p:=⟨b,o+i*4+j,none⟩) hl (fun hm=>hb (hT b hm hl))).trans (hc j u hu)⟩
theorem Ir.at (h:Ir w S A l) {i:Nat} (hi:i < l.length):∃ b o,A=some ⟨b,o,none⟩∧b∉S∧b < w.heap.size∧w.cell? ⟨b,o+i*4,none⟩=some (.int .u8 l[i].op)∧w.cell? ⟨b,o+i*4+1,none⟩=some (.int .i64 l[i].a) ∧
    w.cell? ⟨b,o+i*4+2,none⟩=some (.int .i64 l[i].b)∧w.cell? ⟨b,o+i*4+3,none⟩=some (.int .u64 l[i].w):=by
  obtain ⟨b,o,e,hb,hl,hc⟩:=h i _ (List.getElem?_eq_getElem hi);exact ⟨b,o,e,hb,hl,hc 0 _ rfl,hc 1 _ rfl,hc 2 _ rfl,hc 3 _ rfl⟩
end
def Br (w:World) (S:List Nat) (A:Option Addr) (l:List Kb):Prop :=
  ∀ (i:Nat) (x:Kb),l[i]? = some x→∃ b o A' c,A=some ⟨b,o,none⟩∧b∉S∧b < w.heap.size∧w.cell? ⟨b,o+i*2,none⟩=some (num x.many)∧w.cell? ⟨b,o+i*2+1,none⟩=some (.slice A' x.l.length c) ∧
    x.l.length≤c∧c≤maxLen∧Ir w S A' x.l
section
variable {w w':World} {S S' T:List Nat} {A:Option Addr} {l:List Kb}
theorem Br.far (h:Br w S A l) (f:MM.Far T w w') (hT:∀ b∈T,b < w.heap.size→b∈S):Br w' S A l:=by
  intro i x hx;obtain ⟨b,o,A',c,e,hb,hl,h1,h2,h3,h4,h5⟩:=h i x hx;have hc:∀ k,w'.cell? ⟨b,k,none⟩=w.cell? ⟨b,k,none⟩:=fun k=>f.cell (p:=⟨b,k,none⟩) hl (fun hm=>hb (hT b hm hl))
  exact ⟨b,o,A',c,e,hb,Nat.lt_of_lt_of_le hl f.size,(hc _).trans h1,(hc _).trans h2,h3,h4,h5.far f hT⟩
end
end KW
end Go.Proofs.YtehgmmbdlnginaaGreatDoor
namespace Go.Proofs.YtehgmmbdlnginaaGreatDoor
open Go.RowKit
set_option linter.unusedVariables false
namespace KW
open KP
set_option maxHeartbeats 1000000 in
theorem pops_any (x:Ki) (w:World):Calls Tryz.prog 94 #[val x] w fun e w'=>e = .returned (num (pops x))∧w'=w.alloc (.cells #[.int .u8 x.op,.int .i64 x.a,.int .i64 x.b,.int .u64 x.w] 44):=by
  obtain ⟨op,a,b,v⟩:=x;have HP:Hid (pops ⟨op,a,b,v⟩=if op=11 then b else if op=12∨op=13 then a else 0):=Lib.hid rfl;generalize pops ⟨op,a,b,v⟩=p at *;show Calls Tryz.prog 94 #[.agg #[.int .u8 op,.int .i64 a,.int .i64 b,.int .u64 v]] w _
  go_enter Tryz.func94,Tryz.ntmps94
  by_cases h1:op=11
  · subst h1;go_wp2;go_ret
    refine ⟨?_,rfl⟩
    rw [HP.out];rfl
  · by_cases h2:op=12
    · subst h2;go_wp2;go_ret
      refine ⟨?_,rfl⟩
      rw [HP.out];rfl
    · by_cases h3:op=13
      · subst h3;go_wp2;go_ret
        refine ⟨?_,rfl⟩
        rw [HP.out];rfl
      · have e1:(op == 11)=false:=by simpa using h1
        have e2:(op == 12)=false:=by simpa using h2
        have e3:(op == 13)=false:=by simpa using h3
        go_wp2;go_ret
        refine ⟨?_,rfl⟩
        rw [HP.out,if_neg h1,if_neg (by rintro (h | h);exact h2 h;exact h3 h)];rfl
def Lr (l:List Int) (w w':World) (A:Option Addr):Prop:=∀ (k:Nat) (v:Int),l[k]? = some v→∃ b,A=some ⟨b,0,none⟩∧w.heap.size≤b∧b < w'.heap.size∧w'.cell? ⟨b,k,none⟩=some (num v)
theorem Lr.new (w w':World) (k:Nat) (l:List Int) (hk:k=w'.heap.size) (f:MM.Far [] w w'):Lr l w (w'.alloc (.cells (ints l).toArray 3)) (some ⟨k,0,none⟩)∧MM.Far [] w (w'.alloc (.cells (ints l).toArray 3)):=by
  subst hk;refine ⟨fun j v hv=>⟨_,rfl,f.size,by simp,?_⟩,f.alloc _⟩
  exact (MM.Row.new w' 3 (ints l)).at (by simp only [ints,List.getElem?_map,hv,Option.map_some])
theorem Lr.far {l:List Int} {w w' w'':World} {A:Option Addr} {S:List Nat} (h:Lr l w w' A) (f:MM.Far S w' w'') (hS:∀ b∈S,b < w.heap.size):Lr l w w'' A:=by
  intro k v hv;obtain ⟨b,e,h1,h2,h3⟩:=h k v hv;exact ⟨b,e,h1,Nat.lt_of_lt_of_le h2 f.size,(f.cell (p:=⟨b,k,none⟩) h2 (fun hm=>by have:=hS _ hm;simp at this;omega)).trans h3⟩
def SuQ (l:List Int) (w:World) (e:Ending) (w':World):Prop:=∃ A c,e = .returned (.slice A l.length c)∧Lr l w w' A∧MM.Far [] w w'
set_option maxHeartbeats 1000000 in
theorem succs_any (i:Nat) (hi:i < 1000000000) (x:Ki) (w:World):Calls Tryz.prog 125 #[num i,val x] w (SuQ (succs i x) w):=by
  obtain ⟨op,a,b,v⟩:=x;have HP:Hid (succs i ⟨op,a,b,v⟩=if op=8 then [a] else if op=9 then [(i:Int)+1,a] else if op=13∨op=15∨op=16 then [] else [(i:Int)+1]):=Lib.hid rfl;generalize succs i ⟨op,a,b,v⟩=p at *;show Calls Tryz.prog 125 #[num i,.agg #[.int .u8 op,.int .i64 a,.int .i64 b,.int .u64 v]] w _
  have FB:=Lib.hid ((MM.Far.refl [] w).alloc (.cells #[.int .u8 op,.int .i64 a,.int .i64 b,.int .u64 v] 44));go_enter Tryz.func125,Tryz.ntmps125
  by_cases h1:op=8
  · subst h1;obtain rfl:p=[a]:=HP.out;go_wp2;go_ret
    exact ⟨_,_,rfl,Lr.new w _ _ [a] (by simp) FB.out⟩
  · have e1:(op == 8)=false:=by simpa using h1
    by_cases h2:op=9
    · subst h2;obtain rfl:p=[(i:Int)+1,a]:=HP.out;go_wp2;go_ret
      exact ⟨_,_,rfl,Lr.new w _ _ [(i:Int)+1,a] (by simp) FB.out⟩
    · have e2:(op == 9)=false:=by simpa using h2
      by_cases h3:op=13∨op=15∨op=16
      · obtain rfl:p=[]:=by have:=HP.out;rw [if_neg h1,if_neg h2,if_pos h3] at this;exact this
        rcases h3 with h3 | h3 | h3
        all_goals
          subst h3;go_wp2;go_ret
          exact ⟨none,0,rfl,(fun k v e=>by simp at e),FB.out⟩
      · obtain rfl:p=[(i:Int)+1]:=by have:=HP.out;rw [if_neg h1,if_neg h2,if_neg h3] at this;exact this
        have e3:(op == 13)=false:=by simp;omega
        have e4:(op == 15)=false:=by simp;omega
        have e5:(op == 16)=false:=by simp;omega
        go_wp2;go_ret
        exact ⟨_,_,rfl,Lr.new w _ _ [(i:Int)+1] (by simp) FB.out⟩
theorem filled_any (x:Ki) (f:Int) (hf:f=0∨f=1∨f=2) (w:World):Calls Tryz.prog 126 #[val x,num f] w fun e w'=>e = .returned (.bool (fld x f != 0))∧w'=w.alloc (.cells #[.int .u8 x.op,.int .i64 x.a,.int .i64 x.b,.int .u64 x.w] 44):=by
  obtain ⟨op,a,b,v⟩:=x;show Calls Tryz.prog 126 #[.agg #[.int .u8 op,.int .i64 a,.int .i64 b,.int .u64 v],num f] w _
  go_enter Tryz.func126,Tryz.ntmps126
  rcases hf with rfl | rfl | rfl
  all_goals
    go_wp2;go_ret
    exact ⟨rfl,rfl⟩
theorem const_any (v:Int) (hv:WP.U v) (w:World):Calls Tryz.prog 93 #[.int .u64 v] w fun e w'=>e = .returned (.bool (const v))∧w=w':=by
  have HV:=Lib.hid hv;have HC:Hid (const v=(WP.mayB v && !WP.toB 1 v)):=Lib.hid rfl;generalize const v=r at *;clear hv;go_enter Tryz.func93,Tryz.ntmps93
  go_wp2_with (first | (go_at_call 127;refine (WW.to_any _ _ HV.out _).mono ?_;rintro e w' ⟨rfl,rfl⟩) | (go_at_call 128;refine (WW.may_any _ HV.out _).mono ?_;rintro e w' ⟨rfl,rfl⟩))
  all_goals
    go_ret
    refine ⟨?_,rfl⟩
    rw [HC.out]
    simp_all
end KW
end Go.Proofs.YtehgmmbdlnginaaGreatDoor
namespace Go.Proofs.YtehgmmbdlnginaaGreatDoor
open Go.RowKit
set_option linter.unusedVariables false
namespace KW
open KP
def LeadQ (R:Option (List Int)) (n g:Nat) (w:World) (e:Ending) (w':World):Prop :=
  ∃ d',e = .returned (.bool R.isSome)∧MM.Row w' g 3 (ints d')∧d'.length=n∧(∀ v,R=some v→d'=v)∧MM.Far [g] w w'
theorem ints_at {d:List Int} {j:Nat} (h:j < d.length):(ints d)[j]? = some (num (at_ d j)):=by
  unfold at_ ints;rw [List.getElem?_map,List.getElem?_eq_getElem h];simp [List.getD,h]
theorem ints_set (d:List Int) (j:Nat) (v:Int):(ints d).set j (num v)=ints (d.set j v):=by simp [ints,List.map_set]
theorem succs_len (i:Int) (x:Ki):(succs i x).length≤2:=by
  unfold succs;split
  · simp
  split
  · simp
  split <;> simp
set_option maxHeartbeats 4000000 in
set_option maxRecDepth 20000 in
theorem lead_any (d:List Int) (n:Nat) (hn:d.length=n) (c i:Nat) (x:Ki) (g:Nat) (w:World) (hr:MM.Row w g 3 (ints d)) (hi:i < n) (hlen:n < 1000000000) (h0:0≤at_ d i) (h1:at_ d i < 1000000000) :
    Calls Tryz.prog 90 #[.slice (some ⟨g,0,none⟩) n c,num i,val x] w (LeadQ (lead d i x) n g w):=by
  obtain ⟨R,hR⟩:∃ R,lead d i x=R:=⟨_,rfl⟩
  rw [hR];unfold lead at hR;have HP:=Lib.hid (fun W=>pops_any x W);have HS:=Lib.hid (fun W=>succs_any i (by omega) x W);have HS5:=Lib.hid (succs_len i x);obtain ⟨op,a,b,v⟩:=x;have HPu:Hid (pushes ⟨op,a,b,v⟩=if op=7 then 1 else 0):=Lib.hid rfl;generalize pops ⟨op,a,b,v⟩=p at *;generalize succs i ⟨op,a,b,v⟩=ss at *;generalize pushes ⟨op,a,b,v⟩=pu at *;have hdi:w.cell? ⟨g,i,none⟩=some (num (at_ d i)):=hr.at (ints_at (by omega));have hgl:=hr.lt;generalize hq:at_ d i=q at *;have HN:=Lib.hid hn;have HR:=Lib.hid hR;have Hr:=Lib.hid hr;clear hR hq hn hr;have FB:=Lib.hid (((MM.Far.refl [g] w).alloc (.cells #[.int .u8 op,.int .i64 a,.int .i64 b,.int .u64 v] 44)).alloc (.cells #[.int .u8 op,.int .i64 a,.int .i64 b,.int .u64 v] 44));have HrB:=Lib.hid ((Hr.out.alloc (.cells #[.int .u8 op,.int .i64 a,.int .i64 b,.int .u64 v] 44)).alloc (.cells #[.int .u8 op,.int .i64 a,.int .i64 b,.int .u64 v] 44));show Calls Tryz.prog 90 #[.slice (some ⟨g,0,none⟩) n c,num i,.agg #[.int .u8 op,.int .i64 a,.int .i64 b,.int .u64 v]] w _
  go_enter Tryz.func90,Tryz.ntmps90
  by_cases hp0:p < 0
  · have hRn:R=none:=by have:=HR.out;rw [if_pos hp0] at this;exact this.symm
    subst hRn
    go_wp2_with (first | (go_at_call 94;refine (HP.out _).mono ?_;rintro e w' ⟨rfl,rfl⟩))
    go_ret
    exact ⟨d,rfl,HrB.out,HN.out,(fun v e=>by cases e),FB.out⟩
  · by_cases hp1:q < p
    · have hRn:R=none:=by have:=HR.out;rw [if_neg hp0,if_pos hp1] at this;exact this.symm
      subst hRn
      go_wp2_with (first | (go_at_call 94;refine (HP.out _).mono ?_;rintro e w' ⟨rfl,rfl⟩))
      go_ret
      exact ⟨d,rfl,HrB.out,HN.out,(fun v e=>by cases e),FB.out⟩
    · have hR2:Hid (marks d i (q - p+pu) ss=R):=Lib.hid (by have:=HR.out;rw [if_neg hp0,if_neg hp1] at this;exact this);clear HR
      go_upto_if 31 with (first | (go_at_call 94;refine (HP.out _).mono ?_;rintro e w' ⟨rfl,rfl⟩))
      go_cut [8] (fun s8 wx=>s8=num (q - p+pu)∧wx=(w.alloc (.cells #[.int .u8 op,.int .i64 a,.int .i64 b,.int .u64 v] 44)).alloc (.cells #[.int .u8 op,.int .i64 a,.int .i64 b,.int .u64 v] 44))
      case first =>
        by_cases h7:op=7
        · subst h7;obtain rfl:pu=1:=HPu.out;go_wp2;go_meet
          exact ⟨rfl,rfl⟩
        · have e7:(op == 7)=false:=by simpa using h7
          obtain rfl:pu=0:=by have:=HPu.out;rw [if_neg h7] at this;exact this
          go_wp2;go_meet
          exact ⟨by simp,rfl⟩
      case rest =>
        obtain ⟨rfl,rfl⟩:=hcut;generalize hw1:(w.alloc (.cells #[.int .u8 op,.int .i64 a,.int .i64 b,.int .u64 v] 44)).alloc (.cells #[.int .u8 op,.int .i64 a,.int .i64 b,.int .u64 v] 44)=w1 at *;have hbx:w1.cell? ⟨w.heap.size,0,none⟩=some (.int .u8 op)∧w1.cell? ⟨w.heap.size,1,none⟩=some (.int .i64 a)∧w1.cell? ⟨w.heap.size,2,none⟩=some (.int .i64 b)∧w1.cell? ⟨w.heap.size,3,none⟩=some (.int .u64 v):=by
          have hb:=(MM.Row.new w 44 [.int .u8 op,.int .i64 a,.int .i64 b,.int .u64 v]).alloc (.cells #[.int .u8 op,.int .i64 a,.int .i64 b,.int .u64 v] 44);rw [hw1] at hb;exact ⟨hb.at (i:=0) rfl,hb.at (i:=1) rfl,hb.at (i:=2) rfl,hb.at (i:=3) rfl⟩
        obtain ⟨x0,x1,x2,x3⟩:=hbx;clear hw1 HP
        go_wp2_with (first | (go_at_call 125;refine (HS.out _).mono ?_;rintro e w2 ⟨A,c2,rfl,hL,hF2⟩))
        have hs2:∀ b0∈[g],b0 < w1.heap.size:=by intro b0 hb0;simp at hb0;subst hb0;exact HrB.out.lt
        have hr2:=Lib.hid (HrB.out.far hF2 (by simp));have F2:=Lib.hid (FB.out.trans hF2 (by simp));have HL:=Lib.hid hL;have HS2:=Lib.hid hs2;have F0:Hid (MM.Far [g] w2 w2):=Lib.hid (MM.Far.refl _ _);clear hL hF2 hs2 x0 x1 x2 x3 hdi HS;obtain ⟨m,hm⟩:∃ m,ss.length=m:=⟨_,rfl⟩
        rw [hm];have HM:=Lib.hid hm;clear hm;have hm9:m < 1000000000:=by have:=HM.out;have:=HS5.out;omega
        obtain ⟨left,hleft⟩:∃ left,q - p+pu=left:=⟨_,rfl⟩
        rw [hleft] at hR2 ⊢;clear hleft
        go_loopw [38] (fun s38 wr=>∃ (k:Nat) (d':List Int),k≤m∧s38=num k∧Hid (d'.length=n)∧Hid (MM.Row wr g 3 (ints d'))∧Hid (MM.Far [g] w2 wr)∧Hid (marks d' i left (ss.drop k)=R)) (fun s38 _=>m - (intOf s38).toNat)
        case atStart=>exact ⟨0,d,by omega,rfl,HN,hr2,F0,hR2⟩
        case round =>
          obtain ⟨k,d',hk,rfl,HN',Hr',HF',HR'⟩:=hrel;by_cases hlt:k < m
          · have hkl:k < ss.length:=by rw [HM.out];exact hlt
            obtain ⟨b0,rfl,hb1,hb2,hc⟩:=(HL.out.far HF'.out HS2.out) k _ (List.getElem?_eq_getElem hkl);have hR'':=HR'.out;rw [List.drop_eq_getElem_cons hkl] at hR'';generalize ss[k]=nx at *;unfold KP.marks KP.mark at hR'';have hrg:=Hr'.out.lt;have hd9:d'.length=n:=HN'.out;rw [hd9] at hR'';have HE:=Lib.hid hR'';have HD9:=Lib.hid hd9;clear hR'' hd9;by_cases c1:nx≤(i:Int)
            · obtain rfl:R=none:=by have:=HE.out;rw [if_pos c1] at this;exact this.symm
              clear HE
              go_wp2_with (fail)
              go_ret
              exact ⟨d',rfl,Hr'.out,HN'.out,(fun v e=>by cases e),F2.out.trans HF'.out (fun b1 h1 _=>h1)⟩
            · by_cases c2:(n:Int)≤nx
              · obtain rfl:R=none:=by have:=HE.out;rw [if_neg c1,if_pos c2] at this;exact this.symm
                clear HE
                go_wp2_with (fail)
                go_ret
                exact ⟨d',rfl,Hr'.out,HN'.out,(fun v e=>by cases e),F2.out.trans HF'.out (fun b1 h1 _=>h1)⟩
              · obtain ⟨j,rfl⟩:∃ j:Nat,nx=j:=⟨nx.toNat,by omega⟩
                have hj:j < n:=by omega
                have hcj:wr.cell? ⟨g,j,none⟩=some (num (at_ d' j)):=Hr'.out.at (ints_at (by rw [HD9.out];exact hj));have HE2:=Lib.hid HE.out;obtain ⟨q',hq'⟩:∃ q',at_ d' j=q':=⟨_,rfl⟩
                have HE3:Hid ((match (if q'≠-1∧q'≠left then none else some (d'.set j left)) with | none=>none | some d'=>marks d' i left (ss.drop (k+1)))=R):=Lib.hid (by
                  have:=HE.out;rw [if_neg c1,if_neg c2,Int.toNat_natCast,hq'] at this;exact this)
                rw [hq'] at hcj;have hfz:wr.frozen? ⟨g,j,none⟩=false:=Hr'.out.frozen j;clear HE HE2 hq';by_cases c3:q' = -1
                · subst c3;have HE4:Hid (marks (d'.set j left) i left (ss.drop (k+1))=R):=Lib.hid (by have:=HE3.out;rw [if_neg (by simp)] at this;exact this);clear HE3
                  go_wp2_with (fail)
                  go_roundw
                  case rel=>exact ⟨k+1,d'.set j left,by omega,by go_num,Lib.hid (by rw [List.length_set];exact HN'.out),Lib.hid (by rw [← ints_set];exact Hr'.out.put j _),Lib.hid (HF'.out.setCell (by simp) _),HE4⟩
                  case measure=>simp [intOf];omega
                · by_cases c4:q'=left
                  · subst c4;have HE4:Hid (marks (d'.set j q') i q' (ss.drop (k+1))=R):=Lib.hid (by have:=HE3.out;rw [if_neg (by simp)] at this;exact this);have e3:(q' == -1)=false:=by simpa using c3
                    have e5:(q' != -1)=true:=by simpa using c3
                    clear HE3
                    go_wp2_with (fail)
                    go_roundw
                    case rel=>exact ⟨k+1,d'.set j q',by omega,by go_num,Lib.hid (by rw [List.length_set];exact HN'.out),Lib.hid (by rw [← ints_set];exact Hr'.out.put j _),Lib.hid (HF'.out.setCell (by simp) _),HE4⟩
                    case measure=>simp [intOf];omega
                  · obtain rfl:R=none:=by have:=HE3.out;rw [if_pos ⟨c3,c4⟩] at this;exact this.symm
                    have e3:(q' == -1)=false:=by simpa using c3
                    have e4:(q' == left)=false:=by simpa using c4
                    have e5:(q' != -1)=true:=by simpa using c3
                    have e6:(q' != left)=true:=by simpa using c4
                    clear HE3
                    go_wp2_with (fail)
                    go_ret
                    exact ⟨d',rfl,Hr'.out,HN'.out,(fun v e=>by cases e),F2.out.trans HF'.out (fun b1 h1 _=>h1)⟩
          · obtain rfl:R=some d':=by
              have:=HR'.out;rw [List.drop_eq_nil_of_le (by rw [HM.out];omega)] at this;exact this.symm
            go_wp2_with (fail)
            go_ret
            exact ⟨d',rfl,Hr'.out,HN'.out,(fun v e=>by injection e),F2.out.trans HF'.out (fun b1 h1 _=>h1)⟩
end KW
end Go.Proofs.YtehgmmbdlnginaaGreatDoor
