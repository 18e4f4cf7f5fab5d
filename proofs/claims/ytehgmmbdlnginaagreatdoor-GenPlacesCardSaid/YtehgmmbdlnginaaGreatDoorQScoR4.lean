/-
  Several texts in one: ScoR3,ScoR4.
-/
import Derived.Test.YtehgmmbdlnginaaGreatDoorQScoR2
import Derived.Deep.LoopGhost
namespace Go.Proofs.YtehgmmbdlnginaaGreatDoor
open Go.RowKit
set_option linter.unusedVariables false
namespace SR
open LX SX RW6 EX SC SM
open EW (Sl Zx Fr ptr num strs cell_far forms_slice form_info own_form sz_alloc beq_list strs_len)
open RX (Nd)
section
variable {w0 w w1 w2:World} {E:List Nat} {q:Nat} {h:Dh} {rv rv1:Value} {X:Except Er Su} {B B':Nat}
set_option maxHeartbeats 1000000 in
theorem swrong_any {st:Su} (s:Sst w0 w E q h rv (.ok st) B) (kd a n aa:Int) (tx:ByteArray) (wd:Int) {PA LA:Option Addr} {pn pc ln lc:Nat} (ha:0≤a) (er:Int) :
    Calls Tryz.prog 112 #[ptr q,.agg #[.int .u8 kd,.int .i64 a,.int .i64 n,.int .i64 aa,.string tx,.slice PA pn pc,.int .u64 wd,.slice LA ln lc],.int .i64 er] w (OutS w0 w E q h rv (.error (a,er,st.1)) B):=by
  obtain ⟨nv,bad,er0,N,rs,h1,h2,h3,h4,h5,h6⟩:=s;subst h4 h5;have hB:=MM.Row.new w 39 [.int .u8 kd,.int .i64 a,.int .i64 n,.int .i64 aa,.string tx,.slice PA pn pc,.int .u64 wd,.slice LA ln lc];have F0:=(MM.Far.refl [] w).alloc (.cells #[.int .u8 kd,.int .i64 a,.int .i64 n,.int .i64 aa,.string tx,.slice PA pn pc,.int .u64 wd,.slice LA ln lc] 39);have k1:=h1.to F0;have b1:=hB.at (i:=1) rfl;have c5:=k1.head.at (i:=5) rfl;have f5:=k1.head.frozen 5;have c6:=k1.head.at (i:=6) rfl;have f6':=k1.head.frozen 6;have f6:=(k1.head.put 5 (.int .i64 a)).frozen 6;have HR:=Lib.hid (k1.bad_ a er);have HF0:=Lib.hid F0;have HN:=Lib.hid h3;have H2:=Lib.hid h2;have HA:=Lib.hid ha;clear h1 h2 h3 h6 hB F0 k1 ha;unfold ptr;go_enter Tryz.func112,Tryz.ntmps112
  go_wp2;go_ret
  exact ⟨0,rv,rfl,(Fr.quiet HF0.out).trans HR.out.2,⟨nv,a,er,_,rs,HR.out.1,H2.out,HN.out,rfl,HA.out,rfl,rfl⟩,fun s k e=>by cases e⟩
set_option maxHeartbeats 1000000 in
theorem snumber_any {st:Su} (s:Sst w0 w E q h rv (.ok st) B) (hK:h.K.length≤4096) {x:ByteArray} (hx:PK h.K x) :
    Calls Tryz.prog 108 #[ptr q,.string x] w fun e w'=>e = .returned (.int .i64 (NP.putI st.1 x))∧Sst w0 w' E q h rv (.ok (NP.putL st.1 x,st.2)) B∧Fr w w' q rv rv:=by
  obtain ⟨nv,bad,er0,N,rs,h1,h2,h3,h4,h5,h6⟩:=s;subst h4 h5;have c3:=h1.head.at (i:=3) rfl;obtain ⟨n1,_,_,_,_,n2⟩:=h3.put hK hx;have hP:=NW.rput_any h1.nam x n2 (by have:=hx.1.2;unfold maxLen;omega) h1.far.size;have HN:=Lib.hid n1;have H1:=Lib.hid h1;have H2:=Lib.hid h2;have H6:=Lib.hid h6;have HP:=Lib.hid hP;clear h1 h2 h3 h6 hP n1 n2 hx hK;unfold ptr;obtain ⟨N',hN'⟩:∃ N',NP.putL st.1 x=N':=⟨_,rfl⟩
  rw [hN'] at HN HP ⊢;clear hN';go_enter Tryz.func108,Tryz.ntmps108
  go_wp2_with (first
    | (go_at_call 132;(with_reducible refine HP.out.mono ?_);rintro e w3 ⟨nv',rfl,hRn,hat⟩;obtain ⟨A',c',rfl⟩:=own_form w0 hRn.1;have HX:=Lib.hid (H1.out.name hRn.1 hRn.2 hat);have fz:=(H1.out.to hRn.2).head.frozen 3;have c3':=(H1.out.to hRn.2).head.at (i:=3) rfl;clear hRn hat))
  go_ret
  exact ⟨rfl,⟨_,-1,er0,N',rs,HX.out.1,H2.out,HN.out,rfl,rfl,H6.out⟩,HX.out.2⟩
set_option maxHeartbeats 1000000 in
theorem sown_any (s:Sst w0 w E q h rv X B) (x:ByteArray) :
    Calls Tryz.prog 111 #[ptr q,.string x] w fun e w'=>e = .returned (.bool (decide (x∈h.own)))∧w=w':=by
  obtain ⟨nv,bad,er0,N,rs,h1,-⟩:=s;have c2:=h1.head.at (i:=2) rfl;have HO:=Lib.hid h1.own;obtain ⟨A,c,ho,k0,k1,k2,k3,-⟩:=MO.form h1.own;rw [ho] at c2;have HS:=Lib.hid (k3 [] (by simp));unfold maxLen at k2;clear h1 k0 k3 ho;generalize h.own=l at *;obtain ⟨m,hm⟩:∃ m,l.length=m:=⟨_,rfl⟩
  rw [hm] at c2 k1;have HM:=Lib.hid hm;clear hm;unfold ptr;go_enter Tryz.func111,Tryz.ntmps111
  go_wp2
  go_loop [5] (fun i=>∃ k:Nat,k≤m∧i = .int .i64 (k:Int)∧Hid (∀ j (hj:j < l.length),j < k→l[j]≠x)) (fun i=>m - (intOf i).toNat)
  case atStart=>exact ⟨0,by omega,rfl,Lib.hid (fun j hj h=>by omega)⟩
  case round =>
    obtain ⟨k,hk,rfl,hH⟩:=hrel;by_cases hlt:k < m
    · have hk2:k < l.length:=by rw [HM.out];exact hlt
      obtain ⟨ad,rfl,_,_,hc⟩:=HS.out (by unfold strs;simp;omega);obtain ⟨b,off,spot⟩:=ad;obtain ⟨t,ht⟩:∃ t,t=l[k]:=⟨_,rfl⟩
      obtain rfl:spot=none:=by
        have h1:=hc 0 (.string (l[0]'(by omega))) (by simp [strs,List.getElem?_eq_getElem (show 0 < l.length by omega)]);rw [show (⟨b,off,spot⟩:Addr).add 0=⟨b,off,spot⟩ from by simp [Addr.add]] at h1;exact World.cell?_spot h1
      have c0:=hc k (.string t) (by simp [strs,hk2,ht]);rw [show (⟨b,off,none⟩:Addr).add k=⟨b,off+k,none⟩ from by unfold Addr.add;split;(rename_i h0;subst h0;rfl);rfl] at c0;have HT:Hid (t∈l):=Lib.hid (by rw [ht];exact List.getElem_mem _);have HTT:Hid (∀ (hj:k < l.length),l[k]=t):=Lib.hid (fun _=>ht.symm);clear hc ht hk2;by_cases e:t=x
      · subst e;have HE:Hid (decide (t∈l)=true):=Lib.hid (decide_eq_true HT.out);go_wp2;go_ret
        rw [HE.out];exact ⟨rfl,rfl⟩
      · have e1:=NW.eq_no e;have HE:=Lib.hid e;clear e;go_wp2
        go_round
        case rel=>exact ⟨k+1,by omega,by go_num,Lib.hid (fun j hj hjk=>by
          by_cases hjk2:j=k
          · subst hjk2;rw [HTT.out];exact HE.out
          · exact hH.out j hj (by omega))⟩
        case measure=>simp [intOf];omega
    · obtain rfl:k=m:=by omega
      have HE:Hid (decide (x∈l)=false):=Lib.hid (decide_eq_false (fun hm=>by
        obtain ⟨j,hj,e⟩:=List.getElem_of_mem hm;exact hH.out j hj (by have:=HM.out;omega) e))
      go_wp2;go_ret
      rw [HE.out];exact ⟨rfl,rfl⟩
end
def Env (w:World) (Z:List Nat) (v:Value) (R:Rws):Prop:=∃ pvs,Sl w Z v pvs∧pvs.length=R.length∧(∀ (k:Nat) (hk:k < R.length),∃ A c,pvs[k]? = some (.slice A R[k].length c)∧Sl w Z (.slice A R[k].length c) (strs R[k]))∧∀ A n c,v = .slice A n c→A=none→c=0
theorem Env.far {w w':World} {Z S:List Nat} {v:Value} {R:Rws} (h:Env w Z v R) (f:MM.Far S w w') (hS:∀ b∈S,b < w.heap.size→b∈Z):Env w' Z v R:=by
  obtain ⟨pvs,h1,h2,h3,h6⟩:=h;refine ⟨pvs,h1.far f hS,h2,fun k hk=>?_,h6⟩
  obtain ⟨A,c,h4,h5⟩:=h3 k hk;exact ⟨A,c,h4,h5.far f hS⟩
theorem Env.more {w:World} {Z Z':List Nat} {v:Value} {R:Rws} (h:Env w Z v R) (hZ:∀ b∈Z',b∈Z∨w.heap.size≤b):Env w Z' v R:=by
  obtain ⟨pvs,h1,h2,h3,h6⟩:=h;refine ⟨pvs,h1.more hZ,h2,fun k hk=>?_,h6⟩
  obtain ⟨A,c,h4,h5⟩:=h3 k hk;exact ⟨A,c,h4,h5.more hZ⟩
theorem Env.nil (w:World) (Z:List Nat):Env w Z (.slice none 0 0) []:=⟨[],Sl.nil _ _,rfl,fun k hk=>by simp at hk,fun A n c e _=>by injection e with _ _ e;exact e.symm⟩
theorem Env.fr {w w1:World} {E:List Nat} {q:Nat} {rv rv1 v:Value} {R:Rws} (f:Fr w w1 q rv rv1) (h:Env w (E++Zx q rv) v R):Env w1 (E++Zx q rv1) v R:=by
  obtain ⟨pvs,h1,h2,h3,h6⟩:=h;refine ⟨pvs,f.sl h1,h2,fun k hk=>?_,h6⟩
  obtain ⟨A,c,h4,h5⟩:=h3 k hk;exact ⟨A,c,h4,f.sl h5⟩
theorem Env.cell {w:World} {Z:List Nat} {A:Option Addr} {m c:Nat} {R:Rws} (h:Env w Z (.slice A m c) R):R.length=m∧m≤c∧c≤maxLen∧∀ k (hk:k < R.length),∃ b o PA pc,A=some ⟨b,o,none⟩∧w.cell? ⟨b,o+k,none⟩=some (.slice PA R[k].length pc)∧R[k].length≤pc∧pc≤maxLen ∧
    ∀ j (hj:j < R[k].length),∃ g p,PA=some ⟨g,p,none⟩∧w.cell? ⟨g,p+j,none⟩=some (.string R[k][j]):=by
  obtain ⟨pvs,⟨A',c',e,h1,⟨h2,_⟩,h3⟩,h4,h5,-⟩:=h;injection e with e1 e2 e3;subst e1 e3;refine ⟨by omega,by omega,h2,fun k hk=>?_⟩
  obtain ⟨PA,pc,h6,⟨A2,c2,e4,h7,⟨h8,_⟩,h9⟩⟩:=h5 k hk;obtain ⟨b,o,e5,_,_,hc⟩:=h3 k _ h6;injection e4 with e6 e7 e8;subst e6 e8;refine ⟨b,o,PA,pc,e5,hc,by rw [strs_len] at h7;exact h7,h8,fun j hj=>?_⟩
  obtain ⟨g,p,e9,_,_,hc2⟩:=h9 j (.string R[k][j]) (by unfold strs;rw [List.getElem?_map,List.getElem?_eq_getElem hj];rfl);exact ⟨g,p,e9,hc2⟩
def whA (R:Rws) (s:ByteArray):Int:=match wher R s with | some (a,_)=>(a:Nat) | none=>-1
def whN (R:Rws) (s:ByteArray):Int:=match wher R s with | some (_,n)=>(n:Nat) | none=>0
theorem wher_app {s:ByteArray} {R1:Rws} (h:∀ r∈R1,s∉r) (R2:Rws):wher (R1++R2) s=match wher R2 s with | some (a,n)=>some (a+R1.length,n) | none=>none:=by
  induction R1 with
  | nil =>
    rw [List.nil_append];cases wher R2 s with
    | none=>rfl
    | some x=>rfl
  | cons r R1 ih =>
    rw [List.cons_append];have e:wher (r::(R1++R2)) s=match wher (R1++R2) s with | none=>none | some (a,n)=>some (a+1,n):=by
      show (if s∈r then some (0,r.idxOf s) else _)=_
      rw [if_neg (h r (List.mem_cons_self ..))];rfl
    rw [e,ih (fun r hr=>h r (List.mem_cons_of_mem _ hr))];cases wher R2 s with
    | none=>rfl
    | some x=>obtain ⟨a,n⟩:=x;rfl
theorem wher_at {R:Rws} {s:ByteArray} {k:Nat} (hk:k < R.length) (h:∀ i (hi:i < R.length),i < k→s∉R[i]) (hs:s∈R[k]):wher R s=some (k,R[k].idxOf s):=by
  have e:R=R.take k++(R[k]::R.drop (k+1)):=by rw [← List.drop_eq_getElem_cons hk,List.take_append_drop]
  have h1:∀ r∈R.take k,s∉r:=fun r hr=>by
    obtain ⟨i,hi,e⟩:=List.getElem_of_mem hr;rw [List.length_take] at hi;rw [← e,List.getElem_take];exact h i (by omega) (by omega)
  conv=>lhs;rw [e]
  rw [wher_app h1];have e2:wher (R[k]::R.drop (k+1)) s=some (0,R[k].idxOf s):=by
    show (if s∈R[k] then some (0,R[k].idxOf s) else _)=_
    rw [if_pos hs]
  rw [e2];simp only [List.length_take]
  rw [Nat.min_eq_left (by omega),Nat.zero_add]
theorem wher_no {R:Rws} {s:ByteArray} (h:∀ i (hi:i < R.length),s∉R[i]):wher R s=none:=by
  have:=wher_app (s:=s) (R1:=R) (fun r hr=>by obtain ⟨i,hi,e⟩:=List.getElem_of_mem hr;rw [← e];exact h i hi) [];rw [List.append_nil] at this;exact this
theorem idx_at {l:List ByteArray} {s:ByteArray} {k:Nat} (hk:k < l.length) (h:∀ i (hi:i < l.length),i < k→l[i]≠s) (hs:l[k]=s):l.idxOf s=k:=by
  have h1:=NW.Miss.found (L:=l) (s:=s) (k:=k) (fun j hj=>by
    rw [List.getElem?_eq_getElem (by omega)];simp only [ne_eq,Option.some.injEq]
    exact h j (by omega) hj) hk hs
  have h2:=NP.findI_yes (L:=l) (s:=s) (by rw [← hs];exact List.getElem_mem _);have:=h1.1;omega
set_option maxRecDepth 20000 in
set_option maxHeartbeats 2000000 in
theorem where_any {w:World} {Z:List Nat} {v:Value} {R:Rws} (hE:Env w Z v R) (s:ByteArray):Calls Tryz.prog 110 #[v,.string s] w fun e w'=>e = .returned (.tuple #[.int .i64 (whA R s),.int .i64 (whN R s)])∧w=w':=by
  obtain ⟨A,c,rfl⟩:∃ A c,v = .slice A R.length c:=by
    obtain ⟨pvs,h1,h2,-⟩:=hE;obtain ⟨A,c,e,_⟩:=h1;exact ⟨A,c,by rw [e,h2]⟩
  obtain ⟨-,h1,h2,h3⟩:=hE.cell;unfold maxLen at h2;have H3:=Lib.hid h3;obtain ⟨m,hm⟩:∃ m,R.length=m:=⟨_,rfl⟩
  rw [hm] at h1 ⊢;have HM:=Lib.hid hm;clear hE h3 hm;go_enter Tryz.func110,Tryz.ntmps110
  go_wp2
  go_loop [6] (fun i=>∃ k:Nat,k≤m∧i = .int .i64 (k:Int)∧Hid (∀ i (hi:i < R.length),i < k→s∉R[i])) (fun i=>m - (intOf i).toNat)
  case atStart=>exact ⟨0,by omega,rfl,Lib.hid (fun i hi h=>by omega)⟩
  case round =>
    obtain ⟨k,hk,rfl,hH⟩:=hrel;by_cases hlt:k < m
    · have hk2:k < R.length:=by rw [HM.out];exact hlt
      obtain ⟨b,o,PA,pc,rfl,hc,k1,k2,k3⟩:=H3.out k hk2;unfold maxLen at k2;have hk0:(0:Int)≤(k:Int):=by omega
      obtain ⟨r,hr⟩:∃ r,R[k]=r:=⟨_,rfl⟩
      rw [hr] at hc k1 k3;have HR:Hid (∀ (h:k < R.length),R[k]=r):=Lib.hid (fun _=>hr);have HK3:=Lib.hid k3;obtain ⟨rn,hrn⟩:∃ rn,r.length=rn:=⟨_,rfl⟩
      rw [hrn] at hc k1;have HRN:=Lib.hid hrn;have HK2:=Lib.hid hk2;clear hr k3 hrn hk2;go_wp2
      go_loop [7] (fun i=>∃ j:Nat,j≤rn∧i = .int .i64 (j:Int)∧Hid (∀ i (hi:i < r.length),i < j→r[i]≠s)) (fun i=>rn - (intOf i).toNat)
      case atStart=>exact ⟨0,by omega,rfl,Lib.hid (fun i hi h=>by omega)⟩
      case round =>
        obtain ⟨j,hj,rfl,hJ⟩:=hrel;by_cases hlt2:j < rn
        · have hj2:j < r.length:=by rw [HRN.out];exact hlt2
          obtain ⟨g,p,rfl,hc2⟩:=HK3.out j hj2;obtain ⟨t,ht⟩:∃ t,r[j]=t:=⟨_,rfl⟩
          rw [ht] at hc2;have HT:Hid (∀ (h:j < r.length),r[j]=t):=Lib.hid (fun _=>ht);have HJ2:=Lib.hid hj2;clear ht hj2;by_cases e:t=s
          · subst e;have HW:Hid (wher R t=some (k,j)):=Lib.hid (by
              have e1:=idx_at HJ2.out hJ.out (HT.out HJ2.out);have e2:=HR.out HK2.out;rw [wher_at HK2.out hH.out (by rw [e2];have:=HT.out HJ2.out;rw [← this];exact List.getElem_mem _),e2,e1])
            go_wp2;go_ret2
            unfold whA whN;rw [HW.out];exact ⟨rfl,rfl⟩
          · have e1:=NW.eq_no e;have HE:=Lib.hid e;clear e;go_wp2
            go_round
            case rel=>exact ⟨j+1,by omega,by go_num,Lib.hid (fun i hi hij=>by
              by_cases hij2:i=j
              · subst hij2;rw [HT.out];exact HE.out
              · exact hJ.out i hi (by omega))⟩
            case measure=>simp [intOf];omega
        · obtain rfl:j=rn:=by omega
          have HNO:Hid (s∉r):=Lib.hid (fun hm=>by
            obtain ⟨i,hi,e⟩:=List.getElem_of_mem hm;exact hJ.out i hi (by have:=HRN.out;omega) e)
          go_wp2
          go_round
          case rel=>exact ⟨k+1,by omega,by go_num,Lib.hid (fun i hi hik=>by
            by_cases hik2:i=k
            · subst hik2;rw [HR.out];exact HNO.out
            · exact hH.out i hi (by omega))⟩
          case measure=>simp [intOf];omega
    · obtain rfl:k=m:=by omega
      have HW:Hid (wher R s=none):=Lib.hid (wher_no (fun i hi=>hH.out i hi (by have:=HM.out;omega)));go_wp2;go_ret2
      unfold whA whN;rw [HW.out];exact ⟨rfl,rfl⟩
def prV:List Value:=primN.map .string
def mnV:List Value:=primM.map fun n=>.int .i64 ((n:Nat):Int)
set_option maxRecDepth 20000 in
set_option maxHeartbeats 4000000 in
theorem rprim_any (w:World) (s:ByteArray):Calls Tryz.prog 78 #[.string s] w fun e w'=>e = .returned (.tuple #[.int .i64 (primO s:Nat),.int .i64 (primK s:Nat),.bool (isPrim s)])∧MM.Far [] w w':=by
  obtain ⟨W1,hW1⟩:∃ W,w.alloc (.cells #[.string ⟨#[43]⟩,.string ⟨#[45]⟩,.string ⟨#[42]⟩,.string ⟨#[113,117,111,116,105,101,110,116]⟩,.string ⟨#[114,101,109,97,105,110,100,101,114]⟩,.string ⟨#[60]⟩,.string ⟨#[61]⟩,.string ⟨#[101,113,63]⟩,.string ⟨#[110,111,116]⟩,.string ⟨#[110,117,108,108,63]⟩,.string ⟨#[112,97,105,114,63]⟩,.string ⟨#[99,111,110,115]⟩,.string ⟨#[99,97,114]⟩,.string ⟨#[99,100,114]⟩,.string ⟨#[110,117,109,98,101,114,63]⟩,.string ⟨#[115,121,109,98,111,108,63]⟩,.string ⟨#[112,114,111,99,101,100,117,114,101,63]⟩,.string ⟨#[99,97,108,108,47,99,99]⟩,.string ⟨#[111,117,116]⟩,.string ⟨#[115,112,97,119,110]⟩,.string ⟨#[109,105,99,114,111]⟩,.string ⟨#[97,102,116,101,114]⟩,.string ⟨#[99,97,110,99,101,108]⟩,.string ⟨#[112,114,111,109,105,115,101]⟩,.string ⟨#[115,101,116,116,108,101]⟩,.string ⟨#[116,104,101,110]⟩,.string ⟨#[115,116,114,101,97,109]⟩,.string ⟨#[119,114,105,116,101]⟩,.string ⟨#[114,101,97,100]⟩,.string ⟨#[116,105,109,101]⟩] 9)=W:=⟨_,rfl⟩
  obtain ⟨W,hW⟩:∃ W,W1.alloc (.cells #[.int .i64 2,.int .i64 2,.int .i64 2,.int .i64 2,.int .i64 2,.int .i64 2,.int .i64 2,.int .i64 2,.int .i64 1,.int .i64 1,.int .i64 1,.int .i64 2,.int .i64 1,.int .i64 1,.int .i64 1,.int .i64 1,.int .i64 1,.int .i64 1,.int .i64 1,.int .i64 1,.int .i64 1,.int .i64 2,.int .i64 1,.int .i64 0,.int .i64 2,.int .i64 2,.int .i64 1,.int .i64 2,.int .i64 1,.int .i64 0] 3)=W:=⟨_,rfl⟩
  have hR1:MM.Row W1 w.heap.size 9 prV:=by rw [← hW1];exact MM.Row.new w 9 prV
  have hR2:MM.Row W W1.heap.size 3 mnV:=by rw [← hW];exact MM.Row.new W1 3 mnV
  have hF1:MM.Far [] W1 W:=by rw [← hW];exact (MM.Far.refl [] W1).alloc _
  have HF:Hid (MM.Far [] w W):=Lib.hid ((by rw [← hW1];exact (MM.Far.refl [] w).alloc _:MM.Far [] w W1).trans hF1 (by simp));have HR1:=Lib.hid (hR1.far hF1 (by simp));have HR2:=Lib.hid hR2;clear hR1 hR2 hF1;go_enter Tryz.func78,Tryz.ntmps78
  go_wp2;rw [hW1] at *;rw [hW] at *;clear hW hW1
  go_loopw [7] (fun i wr=>∃ k:Nat,k≤30∧i = .int .i64 (k:Int)∧Hid ((∀ j,j < k→primN[j]?≠some s)∧wr=W)) (fun i _=>30 - (intOf i).toNat)
  case atStart=>exact ⟨0,by omega,rfl,Lib.hid ⟨fun j hj=>by omega,rfl⟩⟩
  case round =>
    obtain ⟨k,hk,rfl,hH⟩:=hrel;have hno:=hH.out.1;have hwr:=hH.out.2;subst hwr;have HNO:=Lib.hid hno;clear hH hno;by_cases hlt:k < 30
    · have hk2:k < primN.length:=hlt;have hk3:k < primM.length:=hlt;have cc:wr.cell? ⟨w.heap.size,k,none⟩=some (.string primN[k]):=HR1.out.at (by unfold prV;rw [List.getElem?_map,List.getElem?_eq_getElem hk2];rfl);have cm:wr.cell? ⟨W1.heap.size,k,none⟩=some (.int .i64 ((primM[k]:Nat):Int)):=HR2.out.at (by unfold mnV;rw [List.getElem?_map,List.getElem?_eq_getElem hk3];rfl);have HL:Hid (primN[k]? = some primN[k]):=Lib.hid (List.getElem?_eq_getElem hk2);have HM:Hid (primM[k]? = some primM[k]):=Lib.hid (List.getElem?_eq_getElem hk3);generalize primN[k]=x at *;generalize primM[k]=y at *;have hk0:(0:Int)≤(k:Int):=by omega
      have hk1:(k:Int) < 30:=by omega
      clear hk2 hk3;by_cases hx:x=s
      · subst hx;have HE:Hid (primO x=k+1∧primK x=y∧isPrim x=true):=Lib.hid (by
          have hm:x∈primN:=List.mem_of_getElem? HL.out;have hkl:=(List.getElem?_eq_some_iff.1 HL.out).1;have hke:=(List.getElem?_eq_some_iff.1 HL.out).2;have hix:primN.idxOf x=k:=by
            have hnd:primN.Nodup:=by decide
            rw [← hke];exact hnd.idxOf_getElem _ _
          unfold primO primK isPrim;rw [if_pos hm,if_pos hm,decide_eq_true hm,hix,List.getD_eq_getElem?_getD,HM.out];exact ⟨rfl,rfl,rfl⟩)
        go_wp2;go_quiet (fail)
        go_wp2;refine bodyPost_ret (results_tmp3 rfl _ _ _) rfl ?_
        rw [HE.out.1,HE.out.2.1,HE.out.2.2];exact ⟨by simp,HF.out.drewN _⟩
      · have hx1:=beq_list hx;go_wp2;go_roundw
        case rel=>exact ⟨k+1,by omega,by go_num,Lib.hid ⟨fun j hj=>by
          by_cases hjk:j=k
          · subst hjk;rw [HL.out];simp only [ne_eq,Option.some.injEq];exact hx
          · exact HNO.out j (by omega),trivial⟩⟩
        case measure=>simp [intOf];omega
    · obtain rfl:k=30:=by omega
      have HE:Hid (s∉primN):=Lib.hid (fun hm=>by
        obtain ⟨j,hj,e⟩:=List.getElem_of_mem hm;exact HNO.out j hj (by rw [List.getElem?_eq_getElem hj,e]))
      go_wp2;refine bodyPost_ret (results_tmp3 rfl _ _ _) rfl ?_
      unfold primO primK isPrim;rw [if_neg HE.out,if_neg HE.out,decide_eq_false HE.out];exact ⟨rfl,HF.out⟩
end SR
end Go.Proofs.YtehgmmbdlnginaaGreatDoor
namespace Go.Proofs.YtehgmmbdlnginaaGreatDoor
open Go.RowKit
set_option linter.unusedVariables false
namespace SR
open LX SX RW6 EX SC SM
open EW (Sl Zx Fr ptr num strs cell_far forms_slice form_info own_form sz_alloc beq_list strs_len ints_len rplace_push)
open RX (Nd)
section
variable {w0 w w1 w2:World} {E:List Nat} {q:Nat} {h:Dh} {rv rv1:Value} {X:Except Er Su} {B B':Nat} {C:Cx}
def FormC (w0:World) (q:Nat) (h:Dh) (C:Cx) (M:Nat):Prop:=∀ (E:List Nat) (w:World) (rv:Value) (X:Except Er Su) (B i:Nat) (R:Rws) (V:Value),i < C.fs.length→F C i≤M→B+F C i≤1000000000→R.length+F C i≤1000000000→Sst w0 w E q h rv X B→Env w (E++Zx q rv) V R →
  Calls Tryz.prog 32 #[ptr q,num i,V] w (OutS w0 w E q h rv (thn X (sq C R (.form i))) (B+F C i))
theorem Sst.less {O:List Nat} (s:Sst w0 w (O++E) q h rv X B):Sst w0 w E q h rv X B:=by
  obtain ⟨nv,bad,er,N,rs,h1,h2,h3⟩:=s;refine ⟨nv,bad,er,N,rs,⟨h1.far,h1.qb,h1.head,h1.row,h1.nam,h1.own,fun x hx=>(h1.rd x hx).more fun b hb=>.inl ?_,fun b hb=>h1.ez b (List.mem_append_right _ hb)⟩,h2,h3⟩
  rcases List.mem_append.1 hb with hb | hb
  · exact List.mem_append_left _ (List.mem_append_right _ hb)
  · exact List.mem_append_right _ hb
theorem Sst.app {base k:Nat} {v v':Value} {xs:List Value} (s:Sst w0 w (v.ownBlock.toList++E) q h rv X B) (f:MM.Far v.ownBlock.toList w w1) (ho:w1.ownsRow base 3 1 v' k xs) (hb:w0.heap.size≤base)
    (hat:v'.ownBlock=v.ownBlock∨∃ b,v'.ownBlock=some b∧w.heap.size≤b):Sst w0 w1 (v'.ownBlock.toList++E) q h rv X B:=by
  obtain ⟨nv,bad,er,N,rs,h1,h2,h3⟩:=s;have hv:∀ b∈v.ownBlock.toList,b < w.heap.size∧w0.heap.size≤b∧b∉Zx q rv∧nv.ownBlock≠some b∧h.ov.ownBlock≠some b:=fun b hb=>h1.ez b (List.mem_append_left _ hb)
  have hz:∀ b∈(v'.ownBlock.toList++E)++Zx q rv,b∈(v.ownBlock.toList++E)++Zx q rv∨w.heap.size≤b:=fun b hb=>by
    rcases List.mem_append.1 hb with hb | hb
    · rcases List.mem_append.1 hb with hb | hb
      · have hb:v'.ownBlock=some b:=by simpa using hb
        rcases hat with e | ⟨g,e,hg⟩
        · exact .inl (List.mem_append_left _ (List.mem_append_left _ (by rw [← e];simpa using hb)))
        · rw [e] at hb;injection hb with hb;exact .inr (by omega)
      · exact .inl (List.mem_append_left _ (List.mem_append_right _ hb))
    · exact .inl (List.mem_append_right _ hb)
  have go {u:Value} {vs:List Value} (hs:Sl w ((v.ownBlock.toList++E)++Zx q rv) u vs):Sl w1 ((v'.ownBlock.toList++E)++Zx q rv) u vs:=by
    have g1:Sl w (v.ownBlock.toList++((v'.ownBlock.toList++E)++Zx q rv)) u vs:=hs.more (fun b hb=>by
      rcases List.mem_append.1 hb with hb | hb
      · exact .inl (List.mem_append_left _ (List.mem_append_left _ hb))
      · exact hz b hb)
    exact (g1.far f (fun b hb _=>List.mem_append_left _ hb)).more (fun b hb=>.inl (List.mem_append_right _ hb))
  refine ⟨nv,bad,er,N,rs,⟨h1.far.trans f (fun b hb hl=>by have:=(hv b hb).2.1;omega),h1.qb,h1.head.far f (fun hm=>(hv q hm).2.2.1 (List.mem_cons_self ..)),MM.own_far h1.row f (fun b hb hm=>(hv b hm).2.2.1 (List.mem_cons_of_mem _ (by simpa using hb))),MM.own_far h1.nam f (fun b hb hm=>(hv b hm).2.2.2.1 hb),MM.own_far h1.own f (fun b hb hm=>(hv b hm).2.2.2.2 hb),fun x hx=>go (h1.rd x hx),fun b hb=>?_⟩,h2,h3⟩
  rcases List.mem_append.1 hb with hb | hb
  · have hb:v'.ownBlock=some b:=by simpa using hb
    have hl:=MM.own_lt ho b hb
    rcases hat with e | ⟨g,e,hg⟩
    · obtain ⟨a1,a2,a3⟩:=hv b (by rw [← e];simpa using hb);exact ⟨hl.1,by omega,a3⟩
    · rw [e] at hb;injection hb with hb;subst hb;refine ⟨hl.1,by omega,fun hm=>?_,fun hm=>?_,fun hm=>?_⟩
      · have:=h1.z g hm;omega
      · have:=(MM.own_lt h1.nam g hm).1;omega
      · have:=(MM.own_lt h1.own g hm).1;omega
  · obtain ⟨g1,g2⟩:=h1.ez b (List.mem_append_right _ hb);exact ⟨Nat.lt_of_lt_of_le g1 f.size,g2⟩
def Col (w0 w wr:World) (E:List Nat) (q:Nat) (h:Dh) (rv:Value) (Y:Except Er (Su × List Nat)) (B:Nat) (v:Value) (j:Nat):Prop :=
  ∃ rv' ks,ks.length=j∧wr.ownsRow w.heap.size 3 1 v ks.length (ints ks)∧Sst w0 wr (v.ownBlock.toList++E) q h rv' (fstsS Y) B∧Fr w wr q rv rv'∧∀ s k,Y = .ok (s,k)→k=ks
theorem Col.start (s:Sst w0 w E q h rv X B):Col w0 w w E q h rv (thn X fun s=>.ok (s,[])) B (.slice none 0 0) 0:=by
  refine ⟨rv,[],rfl,MO.none_ _ _ _ _,?_,Fr.refl _ _ _,fun st k e=>?_⟩
  · have e:fstsS (thn X fun s=>.ok (s,[]))=X:=by cases X <;> rfl
    rw [e];exact s
  · cases X with
    | error a=>cases e
    | ok x=>injection e with e;injection e with _ e;exact e.symm
def ColQ (w0 w:World) (E:List Nat) (q:Nat) (h:Dh) (rv:Value) (Y:Except Er (Su × List Nat)) (R:Su→Except Er (Su × Nat)) (B:Nat) (v:Value) (j:Nat) (e:Ending) (w1:World):Prop :=
  ∃ (rv':Value) (ks:List Nat) (k:Nat),e = .returned (num (k:Int))∧ks.length=j∧w1.ownsRow w.heap.size 3 1 v ks.length (ints ks)∧Sst w0 w1 (v.ownBlock.toList++E) q h rv' (fstS (thn (fstsS Y) R)) B∧Fr w w1 q rv rv'∧w.heap.size≤w1.heap.size ∧
    ∀ s l,(thn Y fun y=>thn (R y.1) fun z=>.ok (z.1,y.2++[z.2])) = .ok (s,l)→l=ks++[k]
theorem Col.call {wr:World} {Y:Except Er (Su × List Nat)} {B':Nat} {R:Su→Except Er (Su × Nat)} {v:Value} {j:Nat} {f:FuncId} {args:Array Value} (s:Col w0 w wr E q h rv Y B v j)
    (hc:∀ rv',Fr w wr q rv rv'→Sst w0 wr (v.ownBlock.toList++E) q h rv' (fstsS Y) B→Calls Tryz.prog f args wr (OutS w0 wr (v.ownBlock.toList++E) q h rv' (thn (fstsS Y) R) B')):Calls Tryz.prog f args wr (ColQ w0 w E q h rv Y R B' v j):=by
  obtain ⟨rv',ks,hk,ho,hS,hF,hY⟩:=s;refine (hc rv' hF hS).mono fun e w1 ⟨k,rv1,he,hF1,hS1,hk1⟩=>?_
  refine ⟨rv1,ks,k,he,hk,MM.own_far ho hF1.far (fun b hb hm=>(hS.ezE b (List.mem_append_left _ (by simpa using hb))).2.2 hm),hS1,hF.trans hF1,Nat.le_trans hF.far.size hF1.far.size,fun st l e=>?_⟩
  cases Y with
  | error a=>cases e
  | ok y =>
    obtain ⟨s1,l1⟩:=y;have e1:=hY s1 l1 rfl;subst e1;have e:(thn (R s1) fun z=>Except.ok (z.1,l1++[z.2])) = .ok (st,l):=e;cases hR:R s1 with
    | error a=>rw [hR] at e;cases e
    | ok z =>
      obtain ⟨s2,k2⟩:=z;rw [hR] at e;injection e with e;injection e with _ e;rw [← e,hk1 s2 k2 hR]
theorem Col.next {w3:World} {Y:Except Er (Su × List Nat)} {R:Su→Except Er (Su × Nat)} {v v':Value} {ks:List Nat} {k:Nat} {rv':Value} (h0:w0.heap.size≤w.heap.size) (hS:Sst w0 w1 (v.ownBlock.toList++E) q h rv' (fstS (thn (fstsS Y) R)) B) (hF:Fr w w1 q rv rv') (ho:w1.ownsRow w.heap.size 3 1 v ks.length (ints ks))
    (hY:∀ s l,(thn Y fun y=>thn (R y.1) fun z=>.ok (z.1,y.2++[z.2])) = .ok (s,l)→l=ks++[k]) (hr:w3.ownsRow w.heap.size 3 1 v' (ks.length+1) (ints ks++[.int .i64 ((k:Nat):Int)])) (f:MM.Far v.ownBlock.toList w1 w3)
    (hat:v'.ownBlock=v.ownBlock∨∃ b,v'.ownBlock=some b∧w1.heap.size≤b):Col w0 w w3 E q h rv (thn Y fun y=>thn (R y.1) fun z=>.ok (z.1,y.2++[z.2])) B v' (ks.length+1):=by
  refine ⟨rv',ks++[k],by simp,?_,?_,?_,hY⟩
  · have e:ints (ks++[k])=ints ks++[.int .i64 ((k:Nat):Int)]:=by unfold ints;rw [List.map_append];rfl
    rw [e,List.length_append];exact hr
  · rw [fstsS_next];exact hS.app f hr h0 hat
  · refine ⟨hF.far.trans f (fun b hb hl=>?_),hF.new⟩
    have:=(MM.own_lt ho b (by simpa using hb)).2;omega
def AllQ (w0 w:World) (E:List Nat) (q:Nat) (h:Dh) (rv:Value) (Y:Except Er (Su × List Nat)) (B:Nat) (e:Ending) (w':World):Prop :=
  ∃ (A:Option Addr) (c:Nat) (ks:List Nat) (rv':Value),e = .returned (.slice A ks.length c)∧Sl w' (E++Zx q rv') (.slice A ks.length c) (ints ks)∧Sst w0 w' E q h rv' (fstsS Y) B∧Fr w w' q rv rv'∧∀ s k,Y = .ok (s,k)→k=ks
theorem ownNew {v:Value} {e:TypeId} {n:Nat} {xs:List Value} (ho:w1.ownsRow w.heap.size e 1 v n xs) {V:Value} {R:Rws} (hE:Env w (E++Zx q rv) V R) (hF:Fr w w1 q rv rv1):Env w1 ((v.ownBlock.toList++E)++Zx q rv1) V R:=by
  have h1:Env w ((v.ownBlock.toList++E)++Zx q rv) V R:=hE.more (fun b hb=>by
    rcases List.mem_append.1 hb with hb | hb
    · rcases List.mem_append.1 hb with hb | hb
      · exact .inr (MM.own_lt ho b (by simpa using hb)).2
      · exact .inl (List.mem_append_left _ hb)
    · exact .inl (List.mem_append_right _ hb))
  exact h1.fr hF
set_option maxHeartbeats 4000000 in
set_option maxRecDepth 20000 in
theorem sall_any {M:Nat} (HF:FormC w0 q h C M) (s:Sst w0 w E q h rv X B) {V:Value} {R:Rws} (hE:Env w (E++Zx q rv) V R) {A:Option Addr} {m lc:Nat} {l:List Nat} (hl:Sl w (E++Zx q rv) (.slice A m lc) (ints l)) (hm:l.length=m) (hm5:m≤100000) (hin:∀ i∈l,i < C.fs.length∧F C i≤M) (hB:B+sumF C l≤1000000000) (hR:R.length+sumF C l≤1000000000) :
    Calls Tryz.prog 68 #[ptr q,.slice A m lc,V] w (AllQ w0 w E q h rv (thn X fun s=>runsS (sq C R) (l.map .form) s []) (B+sumF C l)):=by
  have hmx:m≤maxLen:=by unfold maxLen;omega
  have HL:=Lib.hid hl;have HM:=Lib.hid hm;have HIN:=Lib.hid hin;have HST:=Lib.hid s;have HFC:=Lib.hid HF;have HB:=Lib.hid hB;have HRR:=Lib.hid hR;have HENV:=Lib.hid hE;obtain ⟨VA,VC,rfl⟩:∃ A c,V = .slice A R.length c:=by
    obtain ⟨pvs,h1,h2,-⟩:=hE;obtain ⟨A,c,e,_⟩:=h1;exact ⟨A,c,by rw [e,h2]⟩
  unfold maxLen at hmx;have HC0:Hid (Col w0 w w E q h rv (thn X fun st=>runsS (sq C R) ((l.take 0).map .form) st []) (B+sumF C (l.take 0)) (.slice none 0 0) 0):=Lib.hid (Col.start (s.mono (by omega)));have H0:Hid (w0.heap.size≤w.heap.size):=Lib.hid s.low.1.size;generalize hrl:R.length=rl at *;have HRL:Hid (R.length=rl):=Lib.hid hrl;clear hl hm hin s HF hB hR hE hrl;unfold ptr at *;go_enter Tryz.func68,Tryz.ntmps68
  go_wp2
  go_loopw [7,8] (fun s7 s8 wr=>∃ (j:Nat) (OA:Option Addr) (oc:Nat),j≤m∧s7 = .slice OA j oc∧s8 = .int .i64 (j:Int)∧Hid (Col w0 w wr E q h rv (thn X fun st=>runsS (sq C R) ((l.take j).map .form) st []) (B+sumF C (l.take j)) (.slice OA j oc) j)) (fun _ s8 _=>m - (intOf s8).toNat)
  case atStart=>exact ⟨0,none,0,by omega,rfl,rfl,HC0⟩
  case round =>
    obtain ⟨j,OA,oc,hj,rfl,rfl,hC⟩:=hrel;obtain ⟨wo,rfl⟩:∃ wo,wo=wr:=⟨_,rfl⟩
    clear HC0;by_cases hlt:j < m
    · have hj2:j < l.length:=by rw [HM.out];exact hlt
      have hfr:∃ rv',Fr w wo q rv rv':=by obtain ⟨rv',_,_,_,_,hF,_⟩:=hC.out;exact ⟨rv',hF⟩
      obtain ⟨rv',hFr⟩:=hfr;obtain ⟨A',c',e,hc1,hc2,hc3⟩:=hFr.sl HL.out;injection e with e1 e2 e3;subst e1 e3;obtain ⟨g,o,rfl,hz,hg,cc⟩:=hc3 j (.int .i64 ((l[j]:Nat):Int)) (by unfold ints;rw [List.getElem?_map,List.getElem?_eq_getElem hj2];rfl);have hix:=HIN.out _ (List.getElem_mem hj2);have htk:=runsS_take (Q:=sq C R) hj2 X;have hst:=sumF_take (C:=C) hj2;have hsl:=sumF_le (C:=C) l (j+1);have hCC:=hC.out;have HCL:=Lib.hid (Col.call (R:=sq C R (.form l[j])) (B':=B+sumF C (l.take (j+1))) (f:=32) (args:=#[.pointer (some ⟨q,0,none⟩),.int .i64 ((l[j]:Nat):Int),.slice VA rl VC]) hC.out (fun rv1 hFr1 hS=>by
        obtain ⟨_,ks1,_,ho1,_⟩:=hCC;have h2:=HFC.out _ _ _ _ _ l[j] R _ hix.1 hix.2 (by have:=HB.out;omega) (by have:=HRR.out;have:=HRL.out;omega) hS (ownNew ho1 HENV.out hFr1);refine h2.mono fun e w1 hQ=>hQ.mono (by omega)))
      have HTK:=Lib.hid htk;generalize l[j]=i at *;clear hj2 hFr e2 hc1 hc2 hc3 hz hg hix htk hst hsl hC hCC
      go_wp2_with (first
        | (go_at_call 32;(with_reducible refine HCL.out.mono ?_);rintro e w1 ⟨rv2,ks,k,he,hks,ho,hS,hF2,hsz,hY⟩;(replace he:e = .returned (.int .i64 ((k:Nat):Int)):=he);subst he;have HKS:=Lib.hid hks;have HO:=Lib.hid (by rw [hks] at ho;exact ho);have HOK:=Lib.hid ho;have HS:=Lib.hid hS;have HF2:=Lib.hid hF2;have HSZ:=Lib.hid hsz;have HY:=Lib.hid hY;clear hks ho hS hF2 hsz hY)
        | (at_builtin;refine rplace_push (l:=ks) (n:=k) rfl HOK.out HSZ.out (by have:=HKS.out;omega) rfl (.tmp 15) (.tmp 23) rfl rfl rfl ?_;intro A3 c3 w3 hO3 hF3 hA3;have HN:=Lib.hid (Col.next H0.out HS.out HF2.out HOK.out HY.out hO3 hF3 hA3);clear hO3 hF3 hA3))
      go_roundw
      case rel =>
        have h:=HN.out;rw [HKS.out,← HTK.out] at h;exact ⟨j+1,A3,c3,by omega,by rw [HKS.out],by go_num,Lib.hid h⟩
      case measure=>simp [intOf];omega
    · obtain rfl:j=m:=by omega
      have hall:l.take j=l:=List.take_of_length_le (by rw [HM.out];exact Nat.le_refl _);have hC2:=hC.out;rw [hall] at hC2;obtain ⟨rv1,ks,hks,ho,hS,hFr,hY⟩:=hC2;have hSL:Sl wo (E++Zx q rv1) (.slice OA j oc) (ints ks):=Sl.own ho (fun b hb hm=>by
        rcases List.mem_append.1 hm with hm | hm
        · have h1:=(HST.out.ezE b hm).1;have h2:=(MM.own_lt ho b hb).2;omega
        · exact (hS.ezE b (List.mem_append_left _ (by simpa using hb))).2.2 hm)
      have HQ:Hid (AllQ w0 w E q h rv (thn X fun s=>runsS (sq C R) (l.map .form) s []) (B+sumF C l) (.returned (.slice OA j oc)) wo):=Lib.hid (by
        subst hks;exact ⟨OA,oc,ks,rv1,rfl,hSL,hS.less,hFr,hY⟩)
      clear hall hC hks ho hS hFr hY hSL;go_wp2;go_ret
      exact HQ.out
end
end SR
end Go.Proofs.YtehgmmbdlnginaaGreatDoor
