/-
  The walk of ScopeQuotes: a quoted datum,counted. Conditions: the argument's reading;the primitives' table.
-/
import Derived.Test.YtkcgbhlnkfogeaaDoorQExpDta
import Derived.Test.YtkcgbhlnkfogeaaDoorQScoShown
import Derived.Test.YtkcgbhlnkfogeaaDoorQScoQt2
import Derived.Test.YtkcgbhlnkfogeaaDoorQScoTab
namespace Go.Proofs.YtkcgbhlnkfogeaaDoor
open Go.RowKit
set_option linter.unusedVariables false
namespace SM
open LX SX RW6 EX SC
open EW (Sl Bx ptr num strs NdR)
open RX (Nd)
open RM6 (Kin)
set_option maxHeartbeats 4000000 in
set_option maxRecDepth 20000 in
theorem rlex_long (s:ByteArray) (h:4000 < s.size) (hm:s.size≤maxLen) (w:World):Calls Tryd.prog 14 #[.string s] w fun e w'=>e = .returned (.tuple #[.slice none 0 0,.int .i64 0,.int .i64 3])∧w'=w:=by
  unfold maxLen at hm;have h1:(4000:Int) < (s.size:Int):=by omega
  go_enter Tryd.func14,Tryd.ntmps14
  go_wp2;refine bodyPost_ret (v:=.tuple #[.slice none 0 0,.int .i64 0,.int .i64 3]) (by simp [results,Tryd.results14,go_sem]) rfl ?_
  exact ⟨rfl,rfl⟩
set_option maxHeartbeats 4000000 in
set_option maxRecDepth 20000 in
theorem rread_long (s:ByteArray) (h:4000 < s.size) (hm:s.size≤maxLen) (w:World):Calls Tryd.prog 8 #[.string s] w fun e w'=>e = .returned (.tuple #[.slice none 0 0,.slice none 0 0,.int .i64 0,.int .i64 3])∧w'=w:=by
  have HL:=Lib.hid (rlex_long s h hm);clear h hm;go_enter Tryd.func8,Tryd.ntmps8
  go_wp2_with (go_at_call 14;refine (HL.out _).mono ?_;rintro e w2 ⟨rfl,rfl⟩)
  refine bodyPost_ret (v:=.tuple #[.slice none 0 0,.slice none 0 0,.int .i64 0,.int .i64 3]) (by simp [results,Tryd.results8,go_sem]) rfl ?_
  exact ⟨rfl,rfl⟩
def listsN (l:List Nd):Nat:=l.countP fun x=>decide (x.kind=4)
def atomsN (l:List Nd):Nat:=l.countP fun x=>!decide (x.kind=4)
def partsN (l:List Nd):Nat:=(l.map fun x=>x.l.length).sum
theorem las (l:List Nd):listsN l+atomsN l=l.length:=by
  unfold listsN atomsN;have:=List.length_eq_countP_add_countP (fun x:Nd=>decide (x.kind=4)) (l:=l);simp only [Bool.not_eq_true] at this ⊢
  simpa using this.symm
theorem qt_len {row:List Rf} (h:∀ x∈row,isCons x=true∨isCst x=true):row.length≤row.countP isCons+row.countP isCst:=by
  induction row with
  | nil=>exact Nat.zero_le _
  | cons x row ih =>
    have:=ih (fun y hy=>h y (List.mem_cons_of_mem _ hy));rw [List.countP_cons,List.countP_cons,List.length_cons]
    rcases h x (List.mem_cons_self ..) with e | e <;> rw [if_pos e] <;> split <;> omega
theorem cnt_nodes {l:List Nd} {k:Nat} (h:k < l.length):atomsN (l.take (k+1))=atomsN (l.take k)+(if l[k].kind=4 then 0 else 1)∧listsN (l.take (k+1))=listsN (l.take k)+(if l[k].kind=4 then 1 else 0) ∧
    partsN (l.take (k+1))=partsN (l.take k)+l[k].l.length∧atomsN (l.take k)≤k∧listsN (l.take k)≤k∧partsN (l.take (k+1))≤partsN l:=by
  have e:l.take (k+1)=l.take k++[l[k]]:=by rw [List.take_succ_eq_append_getElem h]
  have hl:(l.take k).length≤k:=by rw [List.length_take];omega
  refine ⟨?_,?_,?_,?_,?_,?_⟩
  · unfold atomsN;rw [e,List.countP_append,List.countP_singleton];by_cases h4:l[k].kind=4 <;> simp [h4]
  · unfold listsN;rw [e,List.countP_append,List.countP_singleton];by_cases h4:l[k].kind=4 <;> simp [h4]
  · unfold partsN;rw [e,List.map_append,List.sum_append];simp
  · unfold atomsN;exact Nat.le_trans List.countP_le_length hl
  · unfold listsN;exact Nat.le_trans List.countP_le_length hl
  · have e2:partsN l=partsN (l.take (k+1))+partsN (l.drop (k+1)):=by
      unfold partsN;rw [← List.sum_append,← List.map_append,List.take_append_drop]
    omega
theorem cnt_forms {l:List Rf} {k:Nat} (h:k < l.length):(l.take (k+1)).countP isCons=(l.take k).countP isCons+(if isCons l[k]=true then 1 else 0)∧(l.take (k+1)).countP isCst=(l.take k).countP isCst+(if isCst l[k]=true then 1 else 0)∧(l.take k).countP isCons≤k∧(l.take k).countP isCst≤k:=by
  have e:l.take (k+1)=l.take k++[l[k]]:=by rw [List.take_succ_eq_append_getElem h]
  have hl:(l.take k).length≤k:=by rw [List.length_take];omega
  refine ⟨?_,?_,Nat.le_trans List.countP_le_length hl,Nat.le_trans List.countP_le_length hl⟩
  · rw [e,List.countP_append,List.countP_singleton]
  · rw [e,List.countP_append,List.countP_singleton]
set_option maxHeartbeats 8000000 in
set_option maxRecDepth 20000 in
theorem squotes_any (s:ByteArray) (w:World) (hm:s.size≤maxLen) (hPT:PT w):Calls Tryd.prog 4 #[.string s] w fun e w'=>e = .returned (.bool true)∧Below w.heap.size w w':=by
  have HSH:=Lib.hid (shown_any w hPT);have HPT:=Lib.hid hPT;clear hPT;by_cases h300:300 < s.size
  · have hgt:(300:Int) < (s.size:Int):=by omega
    by_cases h4000:4000 < s.size
    · have HRD:=Lib.hid (rread_long s h4000 hm);clear h300 hm h4000;go_enter Tryd.func4,Tryd.ntmps4
      go_wp2_with (first
        | (go_at_call 5;(with_reducible refine HSH.out.mono ?_);rintro e w0 ⟨rfl,hF0⟩;have HF0:=Lib.hid hF0;clear hF0)
        | (go_at_call 8;(with_reducible refine (HRD.out _).mono ?_);rintro e w1 ⟨rfl,rfl⟩))
      go_ret
      exact ⟨rfl,HF0.out.below_nil⟩
    · have HRD:=Lib.hid (fun w=>RM6.rread_any s (by omega) w);clear h300 hm h4000;cases hR:RX.read s with
      | error px =>
        obtain ⟨p,x⟩:=px;rw [hR] at HRD;go_enter Tryd.func4,Tryd.ntmps4
        go_wp2_with (first
          | (go_at_call 5;(with_reducible refine HSH.out.mono ?_);rintro e w0 ⟨rfl,hF0⟩;have HF0:=Lib.hid hF0;clear hF0)
          | (go_at_call 8;(with_reducible refine (HRD.out _).mono ?_);rintro e w1 hQ;obtain ⟨rfl,hF1⟩:e = .returned (.tuple #[.slice none 0 0,.slice none 0 0,.int .i64 p,.int .i64 x])∧MM.Far [] w0 w1:=hQ;have HF1:=Lib.hid hF1;clear hF1))
        go_ret
        exact ⟨rfl,(HF0.out.trans HF1.out (by simp)).below_nil⟩
      | ok r =>
        rw [hR] at HRD;go_enter Tryd.func4,Tryd.ntmps4
        go_wp2_with (first
          | (go_at_call 5;(with_reducible refine HSH.out.mono ?_);rintro e w0 ⟨rfl,hF0⟩;have HF0:=Lib.hid hF0;clear hF0)
          | (go_at_call 8;(with_reducible refine (HRD.out _).mono ?_);rintro e w1 ⟨rv,tv0,rs0,rfl,hD0,hrs0⟩;have HD0:=Lib.hid hD0;have HRS0:=Lib.hid hrs0;clear hD0 hrs0))
        go_ret
        exact ⟨rfl,(HF0.out.trans HD0.out.far (by simp)).below_nil⟩
  · have hle:¬ (300:Int) < (s.size:Int):=by omega
    have HRD:=Lib.hid (fun w=>RM6.rread_any s (by omega) w);have HS:=Lib.hid (show s.size≤300 by omega);clear h300 hm;cases hR:RX.read s with
    | error px =>
      obtain ⟨p,x⟩:=px;have hx0':=RX.read_errne hR;have hx0:¬ (x=0):=by rwa [beq_eq_false_iff_ne] at hx0'
      have hx1:(x != 0)=true:=by simp [bne,hx0]
      rw [hR] at HRD;clear hR;go_enter Tryd.func4,Tryd.ntmps4
      go_wp2_with (first
        | (go_at_call 5;(with_reducible refine HSH.out.mono ?_);rintro e w0 ⟨rfl,hF0⟩;have HF0:=Lib.hid hF0;clear hF0)
        | (go_at_call 8;(with_reducible refine (HRD.out _).mono ?_);rintro e w1 hQ;obtain ⟨rfl,hF1⟩:e = .returned (.tuple #[.slice none 0 0,.slice none 0 0,.int .i64 p,.int .i64 x])∧MM.Far [] w0 w1:=hQ;have HF1:=Lib.hid hF1;clear hF1))
      go_ret
      exact ⟨rfl,(HF0.out.trans HF1.out (by simp)).below_nil⟩
    | ok r =>
      rw [hR] at HRD;have hsz:=read_len hR;by_cases h1:r.tops.length=1
      · have HQ:=Lib.hid (scope_quoted (y:=⟨#[39]⟩++s) (by have:=HS.out;omega) (by rw [bts_append];rfl) hR h1);have HOF:=Lib.hid (fun (w:World)=>of_any (⟨#[39]⟩++s) (by rw [ByteArray.size_append];have:=HS.out;have e:(⟨#[39]⟩:ByteArray).size=1:=rfl;omega) w);have hpl:=parts_len hR;have HLF:=Lib.hid (read_ok_data hR).leaf;clear hR;generalize ofS (⟨#[39]⟩++s)=O at *;obtain ⟨n,hn⟩:∃ n,r.row.length=n:=⟨_,rfl⟩
        have HN:=Lib.hid hn;have HPL:=Lib.hid hpl;have hn8:n≤100000:=by omega
        have HT1:=Lib.hid h1;clear hn hsz hpl h1;go_enter Tryd.func4,Tryd.ntmps4
        go_wp2_with (first
          | (go_at_call 5;(with_reducible refine HSH.out.mono ?_);rintro e w0 ⟨rfl,hF0⟩;have HF0:=Lib.hid hF0;clear hF0)
          | (go_at_call 8;(with_reducible refine (HRD.out _).mono ?_);rintro e w1 ⟨rv,tv0,rs0,rfl,hD0,hrs0⟩;obtain ⟨DA,dc,rfl,hNd⟩:=EW.done_rows hD0;rw [hrs0] at hNd;have hrl:rs0.length=n:=(by rw [← HN.out,← hrs0,List.length_map]);obtain ⟨TA,tc,rfl,-,-,-,-⟩:=hD0.tops_row;rw [hrl,HT1.out];have HND:=Lib.hid hNd;have HF1:=Lib.hid (HF0.out.trans hD0.far (by simp));have HO1:=Lib.hid (HOF.out w1 (HPT.out.far HF1.out));clear hD0 hrs0 hNd hrl))
        rcases HQ.out with rfl | ⟨x,rfl⟩ | ⟨N,row,t,rfl,ht,hq⟩
        · clear HQ HOF HND HN HPL
          go_wp2_with (first
            | (go_at_call 6;((with_reducible refine HO1.out.mono ?_);rintro e w2 ⟨fv,tv,rs,g,rfl,hF2,-,-,hrs,hrow,hk⟩;obtain ⟨FA,fc,rfl,-,-,-,-⟩:=rf_rows hrow hk;have hrl:rs.length=0:=(by have:=congrArg List.length hrs;simpa using this);obtain ⟨TB,td,rfl,-,-,-,-⟩:=tops_row hk;rw [hrl];have HF2:=Lib.hid (HF1.out.trans hF2 (by simp));clear hrs hrow hk hrl hF2)))
          go_ret
          exact ⟨rfl,HF2.out.below_nil⟩
        · clear HQ HOF HND HN HPL
          go_wp2_with (first
            | (go_at_call 6;((with_reducible refine HO1.out.mono ?_);rintro e w2 ⟨g,rfl,hF2,-,-⟩;have HF2:=Lib.hid (HF1.out.trans hF2 (by simp));clear hF2)))
          go_ret
          exact ⟨rfl,HF2.out.below_nil⟩
        · have HT:=Lib.hid ht;have HQQ:=Lib.hid hq;obtain ⟨m,hm⟩:∃ m,row.length=m:=⟨_,rfl⟩
          have hm0:0 < m:=by
            have h1:=HPL.out;rw [HT1.out,HN.out] at h1;have h2:=hq.2.2;rw [HN.out] at h2;have h3:=List.countP_le_length (p:=isCst) (l:=row);omega
          have hm2:m≤200000:=by
            have h1:=HPL.out;rw [HT1.out,HN.out] at h1;obtain ⟨q1,q2,q3⟩:=hq;rw [HN.out] at q3;have:=qt_len q1;omega
          have HM:=Lib.hid hm;clear HQ HOF ht hq hm
          go_wp2_with (first
            | (go_at_call 6;((with_reducible refine HO1.out.mono ?_);rintro e w2 ⟨fv,tv,rs,g,rfl,hF2,-,-,hrs,hrow,hk⟩;obtain ⟨FA,fc,rfl,-,-,-,hRf⟩:=rf_rows hrow hk;rw [hrs] at hRf;have hrl:rs.length=m:=(by have:=congrArg List.length hrs;rw [List.length_map] at this;exact this.trans HM.out);obtain ⟨TB,td,rfl,-,-,-,-⟩:=tops_row hk;rw [hrl,HT.out];have HRF:=Lib.hid hRf;have HND2:=Lib.hid (HND.out.far hF2);have HF2:=Lib.hid (HF1.out.trans hF2 (by simp));unfold ptr;clear hrs hrow hk hrl hF2 hRf)))
          have HP2:=Lib.hid (show partsN r.row≤100000 by
            have h1:=HPL.out;rw [HN.out] at h1;unfold partsN;omega)
          go_loopw [14,15,16,58] (fun s14 s15 s16 s58 wr=>∃ k:Nat,k≤n∧s14 = .int .i64 (atomsN (r.row.take k):Nat)∧s15 = .int .i64 (listsN (r.row.take k):Nat)∧s16 = .int .i64 (partsN (r.row.take k):Nat)∧s58 = .int .i64 (k:Int)∧Hid (MM.Far [] w2 wr)) (fun _ _ _ s58 _=>n - (intOf s58).toNat)
          case atStart=>exact ⟨0,by omega,rfl,rfl,rfl,rfl,Lib.hid (MM.Far.refl _ _)⟩
          case round =>
            obtain ⟨k,hk,rfl,rfl,rfl,rfl,hH⟩:=hrel;by_cases hlt:k < n
            · have hk2:k < r.row.length:=by rw [HN.out];exact hlt
              obtain ⟨b,o,LA,lc,rfl,hb,a0,a1,a2,a3,a4,l1,l2,-⟩:=HND2.out.far hH.out k hk2;obtain ⟨c1,c2,c3,c4,c5,c6⟩:=cnt_nodes hk2;have hz:=HLF.out _ (List.getElem_mem hk2);generalize r.row[k]=x at *;obtain ⟨kd,at_,nn,ss,l⟩:=x;simp only at a0 a1 a2 a3 a4 l1 l2 c1 c2 c3 hz
              have C1:=Lib.hid c1;have C2:=Lib.hid c2;have C3:=Lib.hid c3;rw [c3] at c6;have c7:=HP2.out;generalize partsN r.row=pn at *;obtain ⟨ya,hya⟩:∃ yz,atomsN (r.row.take k)=yz:=⟨_,rfl⟩
              obtain ⟨yb,hyb⟩:∃ yz,listsN (r.row.take k)=yz:=⟨_,rfl⟩
              obtain ⟨yc,hu3⟩:∃ yz,partsN (r.row.take k)=yz:=⟨_,rfl⟩
              rw [hya] at c4 C1 ⊢;rw [hyb] at c5 C2 ⊢;rw [hu3] at c6 C3 ⊢;obtain ⟨q,hq⟩:∃ q,l.length=q:=⟨_,rfl⟩
              rw [hq] at a4 C3 c6 l1;have HZ:=Lib.hid (show kd≠4→q=0 from fun h=>by rw [← hq,hz h];rfl);unfold maxLen at l2;clear hk2 c1 c2 c3 hya hyb hu3 hq hz;by_cases h4:kd=4
              · subst h4;go_wp2;go_roundw
                case rel=>exact ⟨k+1,by omega,by rw [C1.out];go_num,by rw [C2.out];go_num,by rw [C3.out];go_num,by go_num,Lib.hid (hH.out.alloc _)⟩
                case measure=>simp [intOf];omega
              · have h5:(kd == 4)=false:=by simp [h4]
                have h6:decide (kd=4)=false:=by simp [h4]
                rw [if_neg h4] at C1 C2;go_wp2;go_roundw
                case rel=>exact ⟨k+1,by omega,by rw [C1.out];go_num,by rw [C2.out];go_num,by rw [C3.out,HZ.out h4];rfl,by go_num,Lib.hid (hH.out.alloc _)⟩
                case measure=>simp [intOf];omega
            · obtain rfl:k=n:=by omega
              have hF2:Hid (MM.Far [] w wr):=Lib.hid (HF2.out.trans hH.out (by simp));have HRF2:=Lib.hid (HRF.out.far hH.out);have e1:r.row.take k=r.row:=List.take_of_length_le (by rw [HN.out];exact Nat.le_refl _);have hpp:=HPL.out;rw [HN.out,HT1.out] at hpp;have hpn:partsN r.row+1=k:=hpp;have hla:=las r.row;rw [HN.out] at hla;have HQC:=Lib.hid HQQ.out;have q2:=HQQ.out.2.1;have q3:=HQQ.out.2.2;rw [HN.out] at q3;have q2':row.countP isCons=partsN r.row:=q2;rw [e1];clear HND HND2 e1 hpp q2;obtain ⟨ya,hya⟩:∃ yz,atomsN r.row=yz:=⟨_,rfl⟩
              obtain ⟨yb,hyb⟩:∃ yz,listsN r.row=yz:=⟨_,rfl⟩
              obtain ⟨yc,hu3⟩:∃ yz,partsN r.row=yz:=⟨_,rfl⟩
              rw [hya] at hla ⊢;rw [hyb] at hla ⊢;rw [hu3] at hpn q2' ⊢;have Q2:=Lib.hid q2';have Q3:=Lib.hid q3;clear HP2 hya hyb hu3 q2' q3;obtain ⟨w3,hw3⟩:∃ w3,w3=wr:=⟨_,rfl⟩
              rw [← hw3] at hF2 HRF2 ⊢;clear hw3 hH;go_wp2
              go_loopw [13,19,77] (fun s13 s19 s77 wr=>∃ j:Nat,j≤m∧s13 = .int .i64 ((row.take j).countP isCons:Nat)∧s19 = .int .i64 ((row.take j).countP isCst:Nat)∧s77 = .int .i64 (j:Int)∧Hid (MM.Far [] w3 wr)) (fun _ _ s77 _=>m - (intOf s77).toNat)
              case atStart=>exact ⟨0,by omega,rfl,rfl,rfl,Lib.hid (MM.Far.refl _ _)⟩
              case round =>
                obtain ⟨j,hj,rfl,rfl,rfl,hH⟩:=hrel;by_cases hlj:j < m
                · have hj2:j < row.length:=by rw [HM.out];exact hlj
                  obtain ⟨b,o,LA,lc,rfl,hb,a0,a1,a2,a3,a4,a5,a6,a7,-⟩:=HRF2.out.far hH.out j hj2;obtain ⟨c1,c2,c3,c4⟩:=cnt_forms hj2;have hx:=HQQ.out.1 _ (List.getElem_mem hj2);generalize row[j]=x at *;obtain ⟨kd,at_,nn,aa,ss,ww,l⟩:=x;simp only at a0 a1 a2 a3 a4 a5 a6 a7
                  obtain ⟨yd,hu4⟩:∃ yz,(row.take j).countP isCons=yz:=⟨_,rfl⟩
                  obtain ⟨ye,hu5⟩:∃ yz,(row.take j).countP isCst=yz:=⟨_,rfl⟩
                  rw [hu4] at c1 c3 ⊢;rw [hu5] at c2 c4 ⊢;obtain ⟨q,hq⟩:∃ q,l.length=q:=⟨_,rfl⟩
                  rw [hq] at a7;have C1:=Lib.hid c1;have C2:=Lib.hid c2;have hx':(kd=12∧nn=12∧q=2)∨kd=13:=by
                    unfold isCons isCst at hx;simp only [Bool.and_eq_true,decide_eq_true_eq,hq] at hx
                    exact hx
                  clear hj2 hu4 hu5 c1 c2 hx
                  rcases hx' with ⟨rfl,rfl,rfl⟩ | rfl
                  · have C1':Hid ((row.take (j+1)).countP isCons=yd+1):=Lib.hid (by rw [C1.out,if_pos (by unfold isCons;simp [hq])]);have C2':Hid ((row.take (j+1)).countP isCst=ye):=Lib.hid (by rw [C2.out,if_neg (by unfold isCst;simp)];rfl);clear C1 C2 hq;go_wp2;go_roundw
                    case rel=>exact ⟨j+1,by omega,by rw [C1'.out];go_num,by rw [C2'.out],by go_num,Lib.hid (hH.out.alloc _)⟩
                    case measure=>simp [intOf];omega
                  · have C1':Hid ((row.take (j+1)).countP isCons=yd):=Lib.hid (by rw [C1.out,if_neg (by unfold isCons;simp)];rfl);have C2':Hid ((row.take (j+1)).countP isCst=ye+1):=Lib.hid (by rw [C2.out,if_pos (by unfold isCst;simp)]);clear C1 C2 hq;go_wp2;go_roundw
                    case rel=>exact ⟨j+1,by omega,by rw [C1'.out],by rw [C2'.out];go_num,by go_num,Lib.hid (hH.out.alloc _)⟩
                    case measure=>simp [intOf];omega
                · obtain rfl:j=m:=by omega
                  have e1:row.take j=row:=List.take_of_length_le (by rw [HM.out];exact Nat.le_refl _);rw [e1,Q2.out,Q3.out];have q1:k=ya+yb:=by omega
                  subst q1;clear e1;go_wp2;go_ret
                  exact ⟨rfl,(hF2.out.trans hH.out (by simp)).below_nil⟩
      · have ht0:¬ ((r.tops.length:Int)=1):=by omega
        have ht1:((r.tops.length:Int) != 1)=true:=by simp [bne,ht0]
        obtain ⟨tl,htl⟩:∃ tl,r.tops.length=tl:=⟨_,rfl⟩
        have HTL:=Lib.hid htl;rw [htl] at ht0 ht1 h1;clear hR htl;go_enter Tryd.func4,Tryd.ntmps4
        go_wp2_with (first
          | (go_at_call 5;(with_reducible refine HSH.out.mono ?_);rintro e w0 ⟨rfl,hF0⟩;have HF0:=Lib.hid hF0;clear hF0)
          | (go_at_call 8;((with_reducible refine (HRD.out _).mono ?_);rintro e w1 ⟨rv,tv0,rs0,rfl,hD0,hrs0⟩;obtain ⟨TA,tc,rfl,-,-,-,-⟩:=hD0.tops_row;rw [HTL.out];have HF1:=Lib.hid (HF0.out.trans hD0.far (by simp));clear hD0 hrs0)))
        go_ret
        exact ⟨rfl,HF1.out.below_nil⟩
end SM
end Go.Proofs.YtkcgbhlnkfogeaaDoor
