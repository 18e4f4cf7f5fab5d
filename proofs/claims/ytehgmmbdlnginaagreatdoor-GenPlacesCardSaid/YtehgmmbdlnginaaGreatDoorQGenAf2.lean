/-
  Several texts in one: GenGo,GenFld,GenAr,GenAf,GenAf2.
-/
import Derived.Test.YtehgmmbdlnginaaGreatDoorQGenFol
import Derived.Test.YtehgmmbdlnginaaGreatDoorQGenTab
import Derived.Test.YtehgmmbdlnginaaGreatDoorQScoKd
import Derived.Deep.RegionHeld3
namespace Go.Proofs.YtehgmmbdlnginaaGreatDoor
open Go.RowKit
set_option linter.unusedVariables false
namespace GW
open LX SX RW6 EX KP SC GP
open EW (Sl Bx)
def GnQ (w:World) (bs:List Kb) (e:Ending) (w':World):Prop:=∃ A c,e = .returned (.slice A bs.length c)∧KW.Br w' [] A bs∧MM.Far [] w w'
theorem iC_at {l:List Ki} {i:Nat} {x:Ki} (h:l[i]? = some x) {j:Nat} {u:Value} (hu:(KW.cel x)[j]? = some u):(iC l)[i*4+j]? = some u:=by
  induction l generalizing i with
  | nil=>simp at h
  | cons y l ih =>
    have hc:iC (y::l)=KW.cel y++iC l:=rfl;rw [hc];have h4:(KW.cel y).length=4:=rfl;cases i with
    | zero =>
      simp at h
      subst h;have:=(List.getElem?_eq_some_iff.1 hu).1;rw [List.getElem?_append_left (by omega),Nat.zero_mul,Nat.zero_add];exact hu
    | succ i =>
      rw [List.getElem?_append_right (by rw [h4];omega),h4,show (i+1)*4+j - 4=i*4+j by omega];exact ih (by simpa using h)
theorem ir_of {w:World} {base n:Nat} {A:Option Addr} {m c:Nat} {l:List Ki} (h:w.ownsRow base 44 4 (.slice A m c) n (iC l)):KW.Ir w [] A l:=by
  intro i x hx
  rcases MO.form h with ⟨A',c',e,hf⟩
  injection e with e1 e2 e3;subst e1 e2 e3
  rcases hf with ⟨-,-,-,-,hvv⟩
  have hl:=(List.getElem?_eq_some_iff.1 hx).1;have hlen:=h.1;rw [iC_len] at hlen
  rcases hvv with ⟨_,h0,_⟩ | ⟨g,rfl,hg1,hg2⟩
  · omega
  · exact ⟨g,0,rfl,by simp,hg2,fun j u hu=>by rw [Nat.zero_add];exact own_cell h (iC_at hx hu)⟩
theorem br_of {base:Nat} {w:World} {q:Nat} {fv:Value} {A:Option Addr} {m c:Nat} {ks:List Value} {ad:List Nat} {s:Gs} (h:Mg base w q fv (.slice A m c) ks ad s):KW.Br w [] A s.bs:=by
  intro i b hb;have hl:=(List.getElem?_eq_some_iff.1 hb).1;obtain ⟨k,hk⟩:∃ k,ks[i]? = some k:=⟨_,List.getElem?_eq_getElem (by rw [h.klen];exact hl)⟩
  obtain ⟨c1,c2⟩:=bC_at s.bs ks h.klen i b k hb hk;have hkid:=h.kid i k b hk hb;obtain ⟨A',c',rfl,-,hc1,hc2,-⟩:=MO.form hkid;obtain ⟨A2,c3,e,-,-,-,-,hvv⟩:=MO.form h.main;injection e with e1 e2 e3;subst e1 e2 e3
  rcases hvv with ⟨_,h0,_⟩ | ⟨g,rfl,hg1,hg2⟩
  · omega
  · exact ⟨g,0,A',c',rfl,by simp,hg2,by rw [Nat.zero_add];exact own_cell h.main c1,by rw [Nat.zero_add];exact own_cell h.main c2,hc1,hc2,ir_of hkid⟩
theorem ls0 (b:Nat):lenB [⟨0,[]⟩] b≤0:=by
  cases b with
  | zero=>exact Nat.le_refl _
  | succ b=>simp [lenB,blk]
theorem mk_block (w:World):(Instr.makeSlice 28 (.int .i64 1) (.int .i64 1)).run Tryz.prog w = .ok (.slice (some ⟨w.heap.size,0,none⟩) 1 1) (w.alloc (.cells #[num 0,.slice none 0 0] 42)):=by kernel_rfl
set_option maxRecDepth 20000 in
set_option maxHeartbeats 4000000 in
theorem generate_any {w:World} {fv:Value} {row:List Rf} {tops:List Nat} {T:Option Addr} {tn tc:Nat} (hr:Rok row) (ht:∀ t∈tops,t < row.length) (hFr:Fr w [] fv row) (hl:∀ i,(rfAt row i).l.length≤100000) (hK:12*(tops.map (sz row row.length)).sum+2≤10000000000) (hT:Sl w [] (.slice T tn tc) (ints tops)) (htn:tops.length=tn) (htl:tn≤100000) :
    Calls Tryz.prog 21 #[fv,.slice T tn tc] w (GnQ w (genB row tops)):=by
  obtain ⟨n,bx,hn,hgo⟩:=gen_go hr ht;have hmk:=mk_block;have HFR:=Lib.hid hFr;have HLL:=Lib.hid hl;have HKK:Hid (n≤10000000000):=Lib.hid (by omega);have HL:=Lib.hid (fun (w2:World) {Z:List Nat} (q:Nat) (hz:∀ b∈Z,b < w2.heap.size) (h:Sl w2 Z (.slice T tn tc) (ints tops))=>lastSeq_any w2 q [] hz 0 htn htl h);have HT:=Lib.hid hT;have HGO:=Lib.hid hgo;obtain ⟨FA,fc,rfl,-⟩:=hFr;generalize genB row tops=bs at *;obtain ⟨q,hq⟩:∃ q,w.heap.size+1=q:=⟨_,rfl⟩
  obtain ⟨W1,hW1⟩:∃ W1,(w.alloc (.cells #[num 0,.slice none 0 0] 42)).alloc (.cells #[.slice FA row.length fc,.slice (some ⟨w.heap.size,0,none⟩) 1 1] 99)=W1:=⟨_,rfl⟩
  have F0:=(MM.Far.refl [] w).alloc (.cells #[num 0,.slice none 0 0] 42);have F01:=(MM.Far.refl [] (w.alloc (.cells #[num 0,.slice none 0 0] 42))).alloc (.cells #[.slice FA row.length fc,.slice (some ⟨w.heap.size,0,none⟩) 1 1] 99);have F1:MM.Far [] w W1:=by rw [← hW1];exact F0.trans F01 (by simp)
  have hsz:W1.heap.size=w.heap.size+2:=by rw [← hW1,sz_alloc,sz_alloc]
  have hO0:(w.alloc (.cells #[num 0,.slice none 0 0] 42)).ownsRow w.heap.size 42 2 (.slice (some ⟨w.heap.size,0,none⟩) 1 1) 1 [num 0,.slice none 0 0] :=
    MO.of_row (MM.Row.new w 42 [num 0,.slice none 0 0]) (Nat.le_refl _) rfl (by decide)
  have hM:Mg w.heap.size W1 q (.slice FA row.length fc) (.slice (some ⟨w.heap.size,0,none⟩) 1 1) [.slice none 0 0] [] ⟨[⟨0,[]⟩],[]⟩:=by
    refine ⟨?_,by omega,?_,rfl,fun i k b hk hb=>?_,fun i j k k' g hi _ hk=>?_,rfl,fun i a n ha=>by simp at ha,List.nodup_nil,fun a ha=>by cases ha⟩
    · rw [← hq,← hW1];have:=MM.Row.new (w.alloc (.cells #[num 0,.slice none 0 0] 42)) 99 [.slice FA row.length fc,.slice (some ⟨w.heap.size,0,none⟩) 1 1];rw [sz_alloc] at this;exact this
    · rw [← hW1];exact MM.own_far hO0 F01 (by simp)
    · cases i with
      | zero=>simp at hk hb;subst hk;subst hb;exact MO.none_ _ _ _ _
      | succ i=>simp at hk
    · cases i with
      | zero=>simp at hi;subst hi;simp [Value.ownBlock] at hk
      | succ i=>simp at hi
  have hz:=fun b hb=>(hM.z b hb).1
  have HM:=Lib.hid hM;have HC:=Lib.hid (HL.out W1 q hz ((HT.out.more (fun b hb=>Or.inr (hM.z b hb).2)).far F1 (by simp)));have HF1:=Lib.hid F1;have HW1:=Lib.hid hW1;have HSZ:=Lib.hid hsz;clear hT hn hK hr ht hgo hl F0 F01 F1 hO0 hM hz hW1 hsz;go_enter Tryz.func21,Tryz.ntmps21
  go_wp2_with (first
    | (go_at_call 37;rw [HW1.out];refine HC.out.mono ?_;intro e w2 hQ;obtain ⟨pA,pc,pvs,rfl,hpl,hpo,hpi,hpf⟩:=rowQ_form hQ;have HFO:=Lib.hid (follow_any w rfl HFR.out HLL.out HKK.out (HM.out.far hpf (by simp)) (own_mono hpo HF1.out.size) hpi (HF1.out.trans hpf (by simp)) HGO.out (by decide) ls0);clear hQ hpo hpi hpf hpl)
    | (go_at_call 36;refine HFO.out.mono ?_;rintro e w3 ⟨⟨v,rfl⟩,bv,ks,ad,hM3,hF3⟩;obtain ⟨gA,gc,rfl,-⟩:=MO.form hM3.main;have g1:=hM3.head.at (i:=1) rfl;have HB:=Lib.hid (br_of hM3);have HF3:=Lib.hid hF3;clear hM3 hF3))
  go_ret
  exact ⟨gA,gc,rfl,HB.out,HF3.out⟩
end GW
end Go.Proofs.YtehgmmbdlnginaaGreatDoor
namespace Go.Proofs.YtehgmmbdlnginaaGreatDoor
open Go.RowKit Go.Shelf
set_option linter.unusedVariables false
attribute [local go_sem] Oper.semAt_some
namespace KP
def texG:List UInt8:=(namL.intersperse [32]).flatten
def bytG (i:Nat):Int:=((texG.getD i 0).toNat:Int)
def stG:Nat→Int
  | 0=>-1
  | i+1=>if bytG i=32 then -1 else if stG i < 0 then i else stG i
def naG:Nat→Nat
  | 0=>0
  | i+1=>if bytG i=32 then naG i+1 else naG i
def wdG (k:Nat):ByteArray:=⟨(namL.getD k []).toArray⟩
def txG:ByteArray:=⟨texG.toArray⟩
def wdsG (k:Nat):List ByteArray:=(List.range k).map wdG
theorem wdsG_succ (k:Nat):wdsG (k+1)=wdsG k++[wdG k]:=by unfold wdsG;rw [List.range_succ,List.map_append];rfl
theorem wdsG_len (k:Nat):(wdsG k).length=k:=by unfold wdsG;simp
set_option maxRecDepth 100000 in
theorem txG_size:texG.length=168:=by decide +kernel
theorem g_byte:∀ i,i < 168→(0≤bytG i∧bytG i < 128)∧(bytG i=32∨spc (bytG i)=0)∧-1≤stG i∧stG i≤i∧naG i < 30:=by decide +kernel
theorem g_word:∀ i,i < 168→bytG i=32→0≤stG i∧(texG.drop (stG i).toNat).take (i - (stG i).toNat)=namL.getD (naG i) []:=by decide +kernel
theorem g_end:0≤stG 168∧stG 168 < 168∧naG 168=29∧texG.drop (stG 168).toNat=namL.getD 29 []:=by decide +kernel
theorem txG_at (i:Nat) (h:i < txG.size):((txG[i]'h).toNat:Int)=bytG i:=by
  unfold bytG;have hs:i < texG.length:=h;rw [List.getD_eq_getElem?_getD,List.getElem?_eq_getElem hs];rfl
theorem txG_cut (a b:Nat) (l:List UInt8) (h:(texG.drop a).take (b - a)=l):txG.extract a b=⟨l.toArray⟩:=by
  apply ByteArray.ext
  rw [ByteArray.data_extract];apply Array.toList_inj.1
  rw [← h];simp [txG]
end KP
namespace GW
open KP KW
set_option maxRecDepth 100000 in
set_option maxHeartbeats 4000000 in
theorem fs1_in (F:Fence) (n:Nat) (hf:F.fn 113) (hro:F.round=none) (hn:1≤n) (l Bs:Nat) (L:List Nat) (hBL:Bs∈L) (hAL:0∈L) (J Jx:List ByteArray→World→Prop)
    (hY:∀ pre x W,J pre W→pre.length < 30→YieldAt F (n - 1) Tryz.prog l #[.string x] W fun e W' =>
      (e = .returned (.bool true)∧J (pre++[x]) W'∧KeepB L W W')∨(e = .returned (.bool false)∧Jx (pre++[x]) W'))
    (W:World) (hBs:W.cell? ⟨Bs,0,none⟩=some (.string txG)) (hA:AT W) (h0:J [] W) :
    CallsIn F n Tryz.prog 113 #[.func (.yield l) #[] #[],ptr Bs] W fun e W'=>(∃ v,e = .returned v) ∧
      ((∃ ys,ys=wdsG 30∧J ys W')∨(∃ pre,(∃ k,pre=wdsG k)∧Jx pre W')):=by
  refine callsIn_of_wp Tryz.func113 rfl hf ?_ hro
  simp only [Tryz.ntmps113,List.size_toArray,List.length_cons,List.length_nil,Nat.reduceAdd,Nat.reduceSub,Array.replicate_succ,Array.replicate_zero,List.push_toArray,List.append_toArray,List.nil_append,List.cons_append]
  have HA:=Lib.hid hA;have HS:Hid (txG.size=168):=Lib.hid txG_size;have HB:Hid (∀ i (h:i < txG.size),((txG[i]'h).toNat:Int)=bytG i):=Lib.hid txG_at;have HT:=Lib.hid (fun i hi=>g_byte i hi);have HW:Hid (∀ i,i < 168→bytG i=32→0≤stG i∧txG.extract (stG i).toNat i=wdG (naG i)):=Lib.hid (fun i hi h=>⟨(g_word i hi h).1,txG_cut _ _ _ (g_word i hi h).2⟩);have HE:Hid (0≤stG 168∧stG 168 < 168∧naG 168=29∧txG.extract (stG 168).toNat txG.size=wdG 29):=Lib.hid ⟨g_end.1,g_end.2.1,g_end.2.2.1,txG_cut _ _ _ (by
    rw [List.take_of_length_le (by rw [List.length_drop];exact Nat.le_of_eq (by rw [show texG.length=txG.size from rfl])),g_end.2.2.2])⟩
  have hgA:=hA.lt;clear hA;generalize txG=s at *;obtain ⟨m,hm⟩:∃ m,s.size=m:=⟨_,rfl⟩
  have hm168:m=168:=hm.symm.trans HS.out;have HM:=Lib.hid hm;have HM168:=Lib.hid hm168;have hle:m≤168:=by omega
  clear hm168
  gi_wp2
  gi_loopw [3,4] (fun s3 s4 wr=>∃ i:Nat,i≤m∧s3=num (stG i)∧s4=num i∧Hid (J (wdsG (naG i)) wr)∧Hid (KeepB L W wr)) (fun _ s4 _=>m - (intOf s4).toNat)
  case atStart=>exact ⟨0,Nat.zero_le _,rfl,rfl,Lib.hid h0,Lib.hid (KeepB.refl _ _)⟩
  case round =>
    obtain ⟨i,hi,rfl,rfl,hJs,hkp⟩:=hrel;have hB2:=(hkp.out.cell (p:=⟨Bs,0,none⟩) hBL).trans hBs;by_cases hlt:i < m
    · have hil:i < s.size:=by rw [hm];exact hlt
      have hi168:i < 168:=by omega
      have hb:=HB.out i hil;obtain ⟨⟨t1,t2⟩,t3,t4,t5,t6⟩:=HT.out i hi168;have hWd:=HW.out i hi168;have C1:Hid (stG (i+1)=if bytG i=32 then -1 else if stG i < 0 then (i:Int) else stG i):=Lib.hid rfl;have C2:Hid (naG (i+1)=if bytG i=32 then naG i+1 else naG i):=Lib.hid rfl;obtain ⟨b,hbb⟩:∃ b:Nat,(s[i]'hil).toNat=b:=⟨_,rfl⟩
      rw [hbb] at hb;have hb256:(b:Int) < 128:=by omega
      have hb0:(0:Int)≤(b:Int):=by omega
      have hc:=(hkp.out.cell (p:=⟨0,b,none⟩) hAL).trans (HA.out.slot b (by omega));have hgA2:0 < wr.heap.size:=by
        obtain ⟨o,ho⟩:∃ o,W.heap[0]? = some o:=⟨_,Array.getElem?_eq_getElem HA.out.lt⟩
        exact (Array.getElem?_eq_some_iff.1 ((hkp.out _ hAL).trans ho)).1
      clear t1 t2;by_cases h32:bytG i=32
      · obtain ⟨w1,w2⟩:=hWd h32;have hsp:spc (b:Int)=1:=by rw [hb,h32];rfl
        rw [hsp] at hc;rw [if_pos h32] at C1 C2;have hsl:∀ W,(Instr.slice 9 (.string s) (some (.int .i64 (stG i))) (some (.int .i64 (i:Nat))) none).run Tryz.prog W = .ok (.string (wdG (naG i))) W:=fun W=>by
          rw [run_slice_string_if W 9 s .i64 .i64 _ _ Tryz.underlying9,if_pos ⟨by omega,by omega⟩,if_pos ⟨by omega,by omega⟩,Int.toNat_natCast,w2]
        have HS2:Hid (wdsG (naG i+1)=wdsG (naG i)++[wdG (naG i)]):=Lib.hid (wdsG_succ _);obtain ⟨fn,tmps,assign,body,hy,hR⟩:=hY _ (wdG (naG i)) wr hJs.out (by rw [wdsG_len];exact t6);have t7:¬ stG i < 0:=by omega
        generalize stG i=st at *;generalize wdG (naG i)=wd at *;generalize naG i=na at *;clear hb h32 hsp w2 hWd t3
        gi_wp2
        refine hR.mono ?_
        rintro e W3 (⟨rfl,hJ3,hk3⟩ | ⟨rfl,hJx3⟩)
        · gi_wp2
          go_roundw
          case rel=>exact ⟨i+1,by omega,by rw [C1.out],by go_num,Lib.hid (by rw [C2.out,HS2.out];exact hJ3),Lib.hid (hkp.out.trans hk3)⟩
          case measure=>simp [intOf];omega
        · gi_wp2
          refine bodyPost_ret (results_none rfl _ _ _) rfl ?_
          exact ⟨⟨_,rfl⟩,.inr ⟨_,⟨na+1,HS2.out.symm⟩,hJx3⟩⟩
      · have hsp:spc (b:Int)=0:=by
          rcases t3 with h | h
          · exact absurd h h32
          · rw [hb];exact h
        rw [hsp] at hc;rw [if_neg h32] at C1 C2;generalize stG i=st at *;generalize naG i=na at *;clear hb h32 hsp hWd t3;by_cases h0s:st < 0
        · rw [if_pos h0s] at C1
          gi_wp2
          go_roundw
          case rel=>exact ⟨i+1,by omega,by rw [C1.out],by go_num,by rw [C2.out];exact hJs,hkp⟩
          case measure=>simp [intOf];omega
        · rw [if_neg h0s] at C1
          gi_wp2
          go_roundw
          case rel=>exact ⟨i+1,by omega,by rw [C1.out],by go_num,by rw [C2.out];exact hJs,hkp⟩
          case measure=>simp [intOf];omega
    · obtain rfl:i=m:=by omega
      obtain ⟨e1,e2,e3,e4⟩:=HE.out;have hi168:i=168:=HM168.out;rw [← hi168] at e1 e2 e3 e4;have hsl:∀ W,(Instr.slice 9 (.string s) (some (.int .i64 (stG i))) none none).run Tryz.prog W = .ok (.string (wdG 29)) W:=fun W=>by
        rw [run_slice_string_from_if W 9 s .i64 _ Tryz.underlying9,if_pos ⟨by omega,by omega⟩,e4]
      have HS2:Hid (wdsG 30=wdsG 29++[wdG 29]):=Lib.hid (wdsG_succ _);have hJs2:=hJs.out;rw [e3] at hJs2;obtain ⟨fn,tmps,assign,body,hy,hR⟩:=hY _ (wdG 29) wr hJs2 (by rw [wdsG_len];decide);generalize stG i=st at *;generalize wdG 29=wd at *;clear e2 e3 e4 hi168
      gi_wp2
      refine hR.mono ?_
      rintro e W3 (⟨rfl,hJ3,hk3⟩ | ⟨rfl,hJx3⟩)
      · gi_wp2
        go_end0
        exact ⟨⟨_,rfl⟩,.inl ⟨_,rfl,by rw [HS2.out];exact hJ3⟩⟩
      · gi_wp2
        go_end0
        exact ⟨⟨_,rfl⟩,.inr ⟨_,⟨30,HS2.out.symm⟩,hJx3⟩⟩
set_option maxHeartbeats 1000000 in
theorem fs_in (F:Fence) (n:Nat) (hf:F.fn 72) (hro:F.round=none) (s:ByteArray) (w:World) :
    CallsIn F n Tryz.prog 72 #[.string s] w fun e w'=>e = .returned (.func (.func 113) #[] #[ptr w.heap.size])∧w'=w.alloc (.cells #[.string s] 9):=by
  refine callsIn_of_wp Tryz.func72 rfl hf ?_ hro
  simp only [Tryz.ntmps72,List.size_toArray,List.length_cons,List.length_nil,Nat.reduceAdd,Nat.reduceSub,Array.replicate_succ,Array.replicate_zero,List.push_toArray,List.append_toArray,List.nil_append,List.cons_append]
  gi_wp2
  go_ret
  exact ⟨rfl,rfl⟩
theorem fs_stops (F:Fence) (n:Nat) (hf:F.fn 113) (hro:F.round=none) (hn:1≤n) (Bs:Nat) (L:List Nat) (hBL:Bs∈L) (hAL:0∈L) (w:World) (hL:∀ b∈L,b < w.heap.size) (hBs:w.cell? ⟨Bs,0,none⟩=some (.string txG)) (hA:AT w) :
    SeqStopsK F n Tryz.prog 113 #[ptr Bs] (fun x:ByteArray=>#[.string x]) (KeepB L) (fun ys=>ys=wdsG 30) (fun pre=>∃ k,pre=wdsG k) 30 w:=fun l J Jx W hW _ _ hY h0 =>
  fs1_in F n hf hro hn l Bs L hBL hAL J Jx hY W ((hW.cell (p:=⟨Bs,0,none⟩) (hL _ hBL)).trans hBs) ⟨Nat.lt_of_lt_of_le hA.lt hW.size,fun b hb=>(hW.cell (p:=⟨0,b,none⟩) hA.lt).trans (hA.slot b hb)⟩ h0
end GW
end Go.Proofs.YtehgmmbdlnginaaGreatDoor
namespace Go.Proofs.YtehgmmbdlnginaaGreatDoor
open Go.RowKit Go.Shelf
set_option linter.unusedVariables false
attribute [local go_sem] Oper.semAt_some
namespace KP
def arG (k:Nat) (x:Int):Option Int:=if 1≤x∧x≤k then some ((primM.getD (x.toNat - 1) 0:Nat):Int) else none
theorem arG_zero (x:Int):arG 0 x=none:=by unfold arG;rw [if_neg (by simp;omega)]
theorem arG_step (k:Nat) (x:Int):(if x=((k+1:Nat):Int) then some ((primM.getD k 0:Nat):Int) else arG k x)=arG (k+1) x:=by
  unfold arG;by_cases h:x=((k+1:Nat):Int)
  · subst h;rw [if_pos rfl,if_pos (by omega)];rfl
  · rw [if_neg h];by_cases h2:1≤x∧x≤k
    · rw [if_pos h2,if_pos (by omega)]
    · rw [if_neg h2,if_neg (by omega)]
theorem wdG_prim:∀ k,k < 30→isPrim (wdG k)=true∧((primO (wdG k):Nat):Int)=((k+1:Nat):Int)∧((primK (wdG k):Nat):Int)=((primM.getD k 0:Nat):Int):=by decide +kernel
def foG (c:Int→Option Int) (x:ByteArray):Int→Option Int:=if isPrim x=true then fun y=>if y=((primO x:Nat):Int) then some ((primK x:Nat):Int) else c y else c
def fosG (pre:List ByteArray):Int→Option Int:=pre.foldl foG (fun _=>none)
theorem fosG_app (pre:List ByteArray) (x:ByteArray):fosG (pre++[x])=foG (fosG pre) x:=by unfold fosG;rw [List.foldl_append];rfl
theorem fosG_wds:∀ k,k≤30→fosG (wdsG k)=arG k:=by
  intro k;induction k with
  | zero=>intro _;funext x;rw [arG_zero];rfl
  | succ k ih =>
    intro h;obtain ⟨p1,p2,p3⟩:=wdG_prim k (by omega);rw [wdsG_succ,fosG_app,ih (by omega)];unfold foG;rw [if_pos p1,p2,p3];funext x
    exact arG_step k x
end KP
namespace GW
open KP KW
theorem fs_in2 (F:Fence) (n:Nat) (hf:F.fn 72) (hro:F.round=none) (s:ByteArray) (hs:s=txG) (w:World) :
    CallsIn F n Tryz.prog 72 #[.string s] w fun e w'=>e = .returned (.func (.func 113) #[] #[ptr w.heap.size])∧w'=w.alloc (.cells #[.string txG] 9):=by
  subst hs;exact fs_in F n hf hro _ w
theorem pt_in {W w:World} {g:Nat} (h:PT W) (f:MM.Far [g] W w) (hg:1≠g):PT w:=by
  unfold PT World.var? at *;rw [pt_named] at h ⊢;simp only [Option.bind_some] at h ⊢
  have hlt:1 < W.heap.size:=by
    rcases Nat.lt_or_ge 1 W.heap.size with hb | hb
    · exact hb
    · rw [Array.getElem?_eq_none hb] at h;cases h
  rw [f.block _ hlt (by simpa using hg)];exact h
theorem pt_lt {w:World} (h:PT w):1 < w.heap.size:=by
  obtain ⟨t,fr,e⟩:=h.obj;exact (Array.getElem?_eq_some_iff.1 e).1
def ArI (w:World) (B mb:Nat) (pre:List ByteArray) (W:World):Prop:=MM.Row W B 66 [.map (some mb)]∧MapI W mb (fosG pre)∧MM.Far [mb] w W
theorem ar_own (w:World) (B mb:Nat) (hmb:mb < w.heap.size):OwnFrom w.heap.size (ArI w B mb):=by
  rintro pre X Y row ⟨h1,h2,h3⟩ hg hr;have hF:MM.Far row.toList X Y:=MM.Far.of_grown (S:=row.toList) hg (fun b hb _=>by rw [hb];simp);have hne:∀ b∈row.toList,w.heap.size≤b∧∃ o:Obj,X.heap[b]? = some o∧o.isCells=false:=fun b hb=>hr b (by simpa using hb)
  have hcel:∀ b,(∃ c t z,X.heap[b]? = some (.cells c t z))→b∉row.toList:=fun b ⟨c,t,z,e⟩ hm=>by
    obtain ⟨_,o,ho,hc⟩:=hne b hm;rw [e] at ho;injection ho with ho;subst ho;cases hc
  refine ⟨h1.far hF (hcel _ (Cel.row h1)),h2.far hF (fun hm=>by have:=(hne _ hm).1;omega),h3.trans hF (fun b hb hl=>?_)⟩
  have:=(hne b hb).1;omega
theorem keepsFrom_map {B mb:Nat} {W W':World} (f:MM.Far [mb] W W') (h:mb < B):KeepsFrom B W W':=by
  refine ⟨f.size,fun k o hB hk ho=>?_⟩
  exact (f.block k (Array.getElem?_eq_some_iff.1 hk).1 (by simp;omega)).trans hk
theorem keepB_map {L:List Nat} {mb:Nat} {W W':World} (f:MM.Far [mb] W W') (hL:∀ b∈L,b < W.heap.size) (h:mb∉L):KeepB L W W':=fun b hb=>f.block b (hL b hb) (by intro hm;rw [List.mem_singleton] at hm;exact h (hm ▸ hb))
set_option maxRecDepth 100000 in
set_option maxHeartbeats 4000000 in
theorem arities_any (w:World) (hA:AT w) (hP:PT w):Calls Tryz.prog 33 #[] w fun e w'=>∃ mb,e = .returned (.map (some mb))∧MapI w' mb (arG 30)∧w.heap.size≤mb∧MM.Far [] w w':=by
  have hAl:=hA.lt;have hPl:=pt_lt hP;have hmm:=@run_makeMap Tryz.prog;refine (callsIn_wide (n:=3)).1 ?_
  refine callsIn_of_wp_marks Tryz.func33 rfl trivial ?_ rfl
  simp only [Tryz.ntmps33,List.size_toArray,List.length_nil,Nat.reduceSub,Array.replicate_succ,Array.replicate_zero,List.push_toArray,List.append_toArray,List.nil_append,List.cons_append]
  have HA:=Lib.hid hA;have HP:=Lib.hid hP;clear hA hP
  gi_wp2_with (refine ⟨trivial,?_⟩;gi_at_call 72;refine (fs_in2 Fence.wide _ trivial rfl _ (by kernel_rfl) _).mono ?_;rintro e w' ⟨rfl,rfl⟩)
  clear hmm;obtain ⟨mb,hmb⟩:∃ mb,w.heap.size=mb:=⟨_,rfl⟩
  obtain ⟨B,hB⟩:∃ B,w.heap.size+1=B:=⟨_,rfl⟩
  obtain ⟨Bs,hBs⟩:∃ Bs,w.heap.size+1+1=Bs:=⟨_,rfl⟩
  obtain ⟨WS,hWS⟩:∃ WS,((w.alloc (.map #[] 0)).alloc (.cells #[.map (some w.heap.size)] 66)).alloc (.cells #[.string txG] 9)=WS:=⟨_,rfl⟩
  have f1:=(MM.Far.refl [] w).alloc (.map #[] 0);have f2:=(MM.Far.refl [] (w.alloc (.map #[] 0))).alloc (.cells #[.map (some w.heap.size)] 66);have f3:=(MM.Far.refl [] ((w.alloc (.map #[] 0)).alloc (.cells #[.map (some w.heap.size)] 66))).alloc (.cells #[.string txG] 9);have F:MM.Far [] w WS:=by rw [← hWS];exact (f1.trans f2 (by simp)).trans f3 (by simp)
  have hM:MapI WS mb (fosG []):=by rw [← hWS,← hmb];exact ((MapI.new w).far f2 (by simp)).far f3 (by simp)
  have hR:MM.Row WS B 66 [.map (some mb)]:=by
    rw [← hWS,← hB,← hmb];have:=MM.Row.new (w.alloc (.map #[] 0)) 66 [.map (some w.heap.size)];rw [sz_alloc] at this;exact this.far f3 (by simp)
  have hT:WS.cell? ⟨Bs,0,none⟩=some (.string txG):=by
    rw [← hWS,← hBs];have:=(MM.Row.new ((w.alloc (.map #[] 0)).alloc (.cells #[.map (some w.heap.size)] 66)) 9 [.string txG]).at (i:=0) rfl;rw [sz_alloc,sz_alloc] at this;exact this
  have hsz:WS.heap.size=w.heap.size+3:=by rw [← hWS,sz_alloc,sz_alloc,sz_alloc]
  rw [hWS,hBs,hB,hmb];have HF:=Lib.hid F;have HWS:=Lib.hid hWS;clear f1 f2 f3 hWS;have hL:∀ b∈[Bs,0],b < WS.heap.size:=by
    intro b hb;simp only [List.mem_cons,List.not_mem_nil,or_false] at hb
    rcases hb with rfl | rfl <;> omega
  have hLn:mb∉[Bs,0]:=by
    simp only [List.mem_cons,List.not_mem_nil,or_false,not_or]
    omega
  have hAS:=HA.out.far F;have hPS:=HP.out.far F;have hrf:ArI WS B mb [] WS:=⟨hR,hM,MM.Far.refl _ _⟩
  refine wpIn_rangeFunc_ownG rfl (by decide) (gf:=113) (lb:=#[ptr Bs]) rfl trivial (enters_of Tryz.func113 (by kernel_rfl) rfl)
      (fs_stops Fence.wide _ trivial rfl (by decide) Bs [Bs,0] (by simp) (by simp) WS hL hT hAS)
      (fun h k=>h.trans k) (keepB_b hL) (Below.refl _ _) (fun _=>rfl)
      (ArI WS B mb) (fun _ _ _=>False) (ar_own WS B mb (by omega)) (fun _ _ _ _ _ hs _ _=>hs) hrf
      (fun x=>{ tmps:=#[.map none,ptr B,.string x,undef,undef,undef,.map (some mb),.func (.func 113) #[] #[ptr Bs],.string x,undef,undef,undef,undef,undef,undef,undef,undef,undef,undef,undef],defers:=[] }) ?assign ?body ?done ?stop
  case assign =>
    intro l x W K hK
    gi_wp2
    exact hK
  case stop =>
    rintro D c pre W _ _ h _;exact h.elim
  case body =>
    rintro l pre x W ⟨g1,g2,g3⟩ hpl;have hLW:∀ b∈[Bs,0],b < W.heap.size:=fun b hb=>Nat.lt_of_lt_of_le (hL b hb) g3.size
    have hPW:PT W:=pt_in hPS g3 (by omega);have c1:=g1.at (i:=0) rfl;have hBm:B≠mb:=by omega
    have HPc:=Lib.hid (prim_any hPW x);have HG1:=Lib.hid g1;have HG3:=Lib.hid g3;have HRF:=Lib.hid hrf;obtain ⟨bp,hbp⟩:∃ bp,isPrim x=bp:=⟨_,rfl⟩
    have HST:Hid (fosG (pre++[x])=if bp=true then fun y=>if y=((primO x:Nat):Int) then some ((primK x:Nat):Int) else fosG pre y else fosG pre):=Lib.hid (by rw [fosG_app,← hbp];rfl);rw [hbp] at HPc;clear g1 g3 hrf hbp;generalize primO x=op at *;generalize primK x=mn at *;cases bp with
    | true =>
      rw [if_pos rfl] at HST
      gi_wp2_with (first
        | (refine ⟨trivial,?_⟩
           gi_at_call 45
           refine ((callsIn_wide.2 HPc.out).inRound l).mono ?_
           rintro e w4 ⟨rfl,hF4⟩;obtain ⟨w5,hup,hM5,hF5⟩:=(g2.far hF4 (by simp)).up ((op:Nat):Int) ((mn:Nat):Int);have c2:=(HG1.out.far hF4 (by simp)).at (i:=0) rfl;have HF5:=Lib.hid ((hF4.mono (S':=[mb]) (fun b hb _=>by cases hb)).trans hF5 (fun b hb _=>hb));have HM5:=Lib.hid hM5;clear hM5 hF4 hF5))
      exact ⟨keepsFrom_map HF5.out (by omega),keepB_map HF5.out hLW hLn,HG1.out.far HF5.out (by simpa using hBm),by rw [HST.out];exact HM5.out,HG3.out.trans HF5.out (fun b hb _=>hb)⟩
    | false =>
      rw [if_neg (by decide)] at HST
      gi_wp2_with (first
        | (refine ⟨trivial,?_⟩
           gi_at_call 45
           refine ((callsIn_wide.2 HPc.out).inRound l).mono ?_
           rintro e w4 ⟨rfl,hF4⟩;have HF5:=Lib.hid (hF4.mono (S':=[mb]) (fun b hb _=>by cases hb));have HM5:=Lib.hid (g2.far hF4 (by simp));clear hF4))
      exact ⟨keepsFrom_map HF5.out (by omega),keepB_map HF5.out hLW hLn,HG1.out.far HF5.out (by simpa using hBm),by rw [HST.out];exact HM5.out,HG3.out.trans HF5.out (fun b hb _=>hb)⟩
  case done =>
    rintro D ys W hD rfl ⟨g1,g2,g3⟩ hDef;have c1:=g1.at (i:=0) rfl
    gi_wp2
    show LeavesInM Fence.wide 3 Tryz.prog Tryz.f33 _ _ ([D].map mark) .returning W
    refine leaves_marks (v:=.map (some mb)) (fun w=>by simp [results,Tryz.results33,go_sem]) [D] W (by simp) (fun D' hD'=>by rw [List.mem_singleton] at hD';rw [hD'];exact hDef) (fun w' f=>⟨mb,rfl,?_,by omega,?_⟩)
    · have:=g2.far f (by simp;omega);rw [fosG_wds 30 (Nat.le_refl _)] at this;exact this
    · refine (HF.out.trans g3 (fun b hb hl=>?_)).trans f (fun b hb hl=>?_)
      · rw [List.mem_singleton] at hb;omega
      · rw [List.mem_singleton] at hb;omega
end GW
end Go.Proofs.YtehgmmbdlnginaaGreatDoor
namespace Go.Proofs.YtehgmmbdlnginaaGreatDoor
open Go.RowKit
set_option linter.unusedVariables false
namespace GW
open LX SX RW6 EX KP SC GP SM
open EW (Sl Bx)
def Hp (f:Rf) (m:Nat):Prop:=((f.kind=13∨f.kind=11∨f.kind=4)∧m=0)∨((f.kind=6∨f.kind=7∨f.kind=9)∧m=1)∨(f.kind=12∧1≤f.n∧f.n≤30∧m=KP.primM.getD (f.n.toNat - 1) 0)∨(f.kind=10∧1≤m)∨(f.kind=5∧m=3)∨f.kind=8
theorem hp_of {N':List ByteArray} {R R':Rws} {f:Rf} (h:Shp N' R { f with l:=[] } R' f.l.length):Hp f f.l.length:=by
  have hk:=h.kinds;simp only at hk
  unfold Hp
  rcases hk with h | h | h | h | h | h | h | h | h | h
  · exact .inl ⟨.inl h.1,h.2.1⟩
  · exact .inl ⟨.inr (.inl h.1),h.2.1⟩
  · exact .inl ⟨.inr (.inr h.1),h.2.1⟩
  · exact .inr (.inl ⟨.inl h.1,h.2.1⟩)
  · exact .inr (.inl ⟨.inr (.inl h.1),h.2.1⟩)
  · exact .inr (.inl ⟨.inr (.inr h.1),h.2.1⟩)
  · exact .inr (.inr (.inl ⟨h.1,h.2.1,h.2.2.1,h.2.2.2⟩))
  · exact .inr (.inr (.inr (.inl ⟨h.1,h.2⟩)))
  · exact .inr (.inr (.inr (.inr (.inl ⟨h.1,h.2⟩))))
  · exact .inr (.inr (.inr (.inr (.inr h.1))))
set_option maxRecDepth 20000 in
set_option maxHeartbeats 4000000 in
theorem parts_any {w:World} {mb:Nat} (hM:KW.MapI w mb (arG 30)) {f:Rf} {A:Option Addr} {m c:Nat} (hp:Hp f m):Calls Tryz.prog 34 #[fV f (.slice A m c),.map (some mb)] w fun e w'=>e = .returned (.bool true)∧MM.Far [] w w':=by
  obtain ⟨kind,at_,n,a,s,ww,l⟩:=f;unfold Hp at hp;simp only at hp
  have HM:=Lib.hid hM
  rcases hp with ⟨h | h | h,rfl⟩ | ⟨h | h | h,rfl⟩ | ⟨h,h1,h2,rfl⟩ | ⟨h,h1⟩ | ⟨h,rfl⟩ | h
  case inr.inr.inl =>
    subst h;have hlk:=fun W (f:MM.Far [] w W)=>(HM.out.far f (by simp)).look n
    rw [show arG 30 n=some ((KP.primM.getD (n.toNat - 1) 0:Nat):Int) by unfold arG;rw [if_pos ⟨h1,by omega⟩]] at hlk;generalize KP.primM.getD (n.toNat - 1) 0=m at *;clear hM;go_enter Tryz.func34,Tryz.ntmps34
    have hlk1:=hlk _ ((MM.Far.refl [] w).alloc (.cells #[.int .u8 12,num at_,num n,num a,.string s,.slice none 0 0,.int .u64 ww,.slice A m c] 39));simp only [Option.getD_some,Option.isSome_some] at hlk1
    go_wp2;refine bodyPost_ret (v:=.bool true) (by simp [results,Tryz.results34,go_sem] <;> omega) rfl ⟨rfl,?_⟩
    exact (MM.Far.refl [] w).alloc _
  all_goals
    subst h;clear hM HM
    try have h2:(0:Int) < (m:Int):=by omega
    go_enter Tryz.func34,Tryz.ntmps34
    go_wp2;refine bodyPost_ret (v:=.bool true) (by simp [results,Tryz.results34,go_sem] <;> omega) rfl ⟨rfl,?_⟩
    exact (MM.Far.refl [] w).alloc _
set_option maxHeartbeats 1000000 in
theorem take_any {w:World} {g n m c:Nat} {u l:List Nat} {A:Option Addr} {k lc:Nat} (hr:MM.Row w g 4 (bools (tkU n u))) (hm:m≤n) (hmc:m≤c) (hn:n≤1000000000000) (hl:RdC w [g] A (ints l)) (hk:l.length=k) (hlm:∀ x∈l,x < m) (hnd:(u++l).Nodup) (hll:l.length≤1000000) :
    Calls Tryz.prog 35 #[.slice (some ⟨g,0,none⟩) m c,.slice A k lc] w fun e w'=>e = .returned (.bool true)∧MM.Row w' g 4 (bools (tkU n (u++l)))∧MM.Far [g] w w':=by
  have HL:=Lib.hid hl;have HLM:=Lib.hid hlm;have HND:=Lib.hid hnd;have HK:=Lib.hid hk;have H0:Hid (MM.Row w g 4 (bools (tkU n (u++l.take 0)))∧MM.Far [g] w w):=Lib.hid ⟨by rw [List.take_zero,List.append_nil];exact hr,MM.Far.refl _ _⟩;rw [hk] at hll;clear hl hlm hnd hk hr;go_enter Tryz.func35,Tryz.ntmps35
  go_wp2
  go_loopw [9] (fun s9 wr=>∃ j:Nat,j≤k∧s9 = .int .i64 (j:Int)∧Hid (MM.Row wr g 4 (bools (tkU n (u++l.take j)))∧MM.Far [g] w wr)) (fun s9 _=>k - (intOf s9).toNat)
  case atStart=>exact ⟨0,by omega,rfl,H0⟩
  case round =>
    clear H0;obtain ⟨j,hj,rfl,hH⟩:=hrel;by_cases hlt:j < k
    · have hjl:j < l.length:=by rw [HK.out];exact hlt
      obtain ⟨g2,o,rfl,hz,hg,cc⟩:=(HL.out.far hH.out.2 (fun b hb _=>hb)) j (.int .i64 (l[j]:Nat)) (by simp [ints,List.getElem?_eq_getElem hjl]);obtain ⟨x,hx⟩:∃ x,l[j]=x:=⟨_,rfl⟩
      have hxm:x < m:=by rw [← hx];exact HLM.out _ (List.getElem_mem hjl)
      have hxn:x < n:=by omega
      have hxu:x∉u++l.take j:=by
        have hnd:=HND.out;have e4:u++l=(u++l.take j)++(l[j]::l.drop (j+1)):=by
          rw [List.append_assoc,← List.drop_eq_getElem_cons hjl,List.take_append_drop]
        rw [e4] at hnd;have:=(List.nodup_append.1 hnd).2.2;intro hm2;exact this x hm2 x (by rw [hx];exact List.mem_cons_self ..) rfl
      rw [hx] at cc;have hcell:=hH.out.1.at (i:=x) (v:=.bool false) (by
        unfold bools;rw [List.getElem?_map,tkU_at n _ hxn];simp [hxu])
      have hfz:=hH.out.1.frozen x;have HSt:Hid (MM.Row (wr.setCell ⟨g,x,none⟩ (.bool true)) g 4 (bools (tkU n (u++l.take (j+1))))):=Lib.hid (by
        have:=hH.out.1.put x (.bool true);rw [List.take_succ_eq_append_getElem hjl,hx,← List.append_assoc,← tkU_set n _ hxn];unfold bools at this ⊢;rw [List.map_set];exact this)
      have HFt:Hid (MM.Far [g] w (wr.setCell ⟨g,x,none⟩ (.bool true))):=Lib.hid (hH.out.2.setCell (by simp) _);clear hH hxu hx hz hg;go_wp2;go_roundw
      case rel=>exact ⟨j+1,by omega,by go_num,Lib.hid ⟨HSt.out,HFt.out⟩⟩
      case measure=>simp [intOf];omega
    · obtain rfl:j=k:=by omega
      go_wp2;go_ret
      have h1:=hH.out.1;rw [List.take_of_length_le (by rw [HK.out];exact Nat.le_refl _)] at h1;exact ⟨rfl,h1,hH.out.2⟩
theorem take_w {W w:World} {g n m c:Nat} {u l:List Nat} {A:Option Addr} {k lc:Nat} (hr:MM.Row W g 4 (bools (tkU n u))) (f:MM.Far [] W w) (hm:m≤n) (hmc:m≤c) (hn:n≤1000000000000) (hl:RdC W [g] A (ints l)) (hk:l.length=k) (hlm:∀ x∈l,x < m) (hnd:(u++l).Nodup) (hll:l.length≤1000000) :
    Calls Tryz.prog 35 #[.slice (some ⟨g,0,none⟩) m c,.slice A k lc] w fun e w'=>e = .returned (.bool true)∧MM.Row w' g 4 (bools (tkU n (u++l)))∧MM.Far [g] W w' :=
  (take_any (hr.far f (by simp)) hm hmc hn (hl.far f (by simp)) hk hlm hnd hll).mono fun _ _ ⟨h1,h2,h3⟩=>⟨h1,h2,(f.mono (by simp)).trans h3 (fun _ h _=>h)⟩
end GW
end Go.Proofs.YtehgmmbdlnginaaGreatDoor
namespace Go.Proofs.YtehgmmbdlnginaaGreatDoor
open Go.RowKit
set_option linter.unusedVariables false
namespace GW
open LX SX RW6 EX KP SC GP SM
open EW (Sl Bx)
theorem flat_take2 (fs:List Rf) (k:Nat) (h:k < fs.length):(fs.take (k+1)).flatMap (·.l)=(fs.take k).flatMap (·.l)++fs[k].l:=by
  rw [List.take_succ_eq_append_getElem h,List.flatMap_append];simp
theorem nd_front2 {fs:List Rf} {ts:List Nat} (h:(fs.flatMap (·.l)++ts).Nodup) (k:Nat) (hk:k < fs.length):((fs.take k).flatMap (·.l)++fs[k].l).Nodup:=by
  rw [← flat_take2 fs k hk];have h1:=(List.nodup_append.1 h).1;have e:fs.flatMap (·.l)=(fs.take (k+1)).flatMap (·.l)++(fs.drop (k+1)).flatMap (·.l):=by rw [← List.flatMap_append,List.take_append_drop]
  rw [e] at h1;exact (List.nodup_append.1 h1).1
theorem kp8 {w w':World} {p1 p2 p3 p4 p5 p6 p7 p8:Addr} {v1 v2 v3 v4 v5 v6 v7 v8:Value} (f:MM.Far [] w w') (h:w.cell? p1=some v1∧w.cell? p2=some v2∧w.cell? p3=some v3∧w.cell? p4=some v4∧w.cell? p5=some v5∧w.cell? p6=some v6∧w.cell? p7=some v7∧w.cell? p8=some v8) :
    w'.cell? p1=some v1∧w'.cell? p2=some v2∧w'.cell? p3=some v3∧w'.cell? p4=some v4∧w'.cell? p5=some v5∧w'.cell? p6=some v6∧w'.cell? p7=some v7∧w'.cell? p8=some v8 :=
  ⟨far_cell f h.1 (MR.cell_lt h.1),far_cell f h.2.1 (MR.cell_lt h.2.1),far_cell f h.2.2.1 (MR.cell_lt h.2.2.1),far_cell f h.2.2.2.1 (MR.cell_lt h.2.2.2.1),keep4 f h.2.2.2.2⟩
theorem rok_hp {fs:List Rf} (G:Rok fs) (k:Nat) (h:k < fs.length):Hp fs[k] fs[k].l.length∧∀ p∈fs[k].l,p < k:=by
  obtain ⟨⟨N,R,R',hs⟩,hl⟩:=G k h;rw [rf_at h] at hs hl;exact ⟨hp_of hs,hl⟩
set_option maxHeartbeats 4000000 in
set_option maxRecDepth 20000 in
theorem areForms_any {w:World} {A T:Option Addr} {n c tn tc:Nat} {fs:List Rf} {ts:List Nat} (hA:KW.AT w) (hP:KW.PT w) (hF:Fr w [] (.slice A n c) fs) (hn:fs.length=n) (hn2:n≤1000000000000) (G:Rok fs) (hnd:(fs.flatMap (·.l)++ts).Nodup) (htl:∀ t∈ts,t < fs.length) (hl:∀ f∈fs,f.l.length≤100000) (hT:RdC w [] T (ints ts)) (htn:ts.length=tn) (hts:ts.length≤100000) :
    Calls Tryz.prog 20 #[.slice A n c,.slice T tn tc] w fun e w'=>e = .returned (.bool true)∧MM.Far [] w w':=by
  have HF:=Lib.hid hF;have HN:=Lib.hid hn;have HG:=Lib.hid G;have HL:=Lib.hid hl;have HT:=Lib.hid hT;have HTN:=Lib.hid htn;have HTL:=Lib.hid htl;have HND:=Lib.hid hnd;have HTS:=Lib.hid hts;have HAR:=Lib.hid (fun W (f:MM.Far [] w W)=>arities_any W (hA.far f) (hP.far f));clear hF hn G hl hT htl htn hnd hts hA hP;have hmk:=run_make_row' (P:=Tryz.prog) 94 4 (.bool false) 1 bools_slice bool_info rfl .i64 .i64 n (by omega) (by omega);rw [bool_row] at hmk;go_enter Tryz.func20,Tryz.ntmps20
  go_wp2_with (first | (go_at_call 33;refine (HAR.out _ ((MM.Far.refl [] w).alloc _)).mono ?_;rintro e w1 ⟨mb,rfl,hM1,hmb,hF1⟩;have HM1:=Lib.hid hM1;have HF1:=Lib.hid hF1;clear hM1 hF1))
  obtain ⟨g,hg⟩:∃ g,w.heap.size=g:=⟨_,rfl⟩
  have HG0:=Lib.hid hg;have H0:Hid (MM.Row w1 g 4 (bools (tkU n ((fs.take 0).flatMap (·.l))))∧MM.Far [] w w1):=Lib.hid ⟨by have:=(MM.Row.new w 4 (bools (tkU n []))).far HF1.out (by simp);rw [hg] at this;exact this,((MM.Far.refl [] w).alloc _).trans HF1.out (by simp)⟩;have hmg:g < mb:=by rw [sz_alloc] at hmb;omega
  rw [hg];clear hmk hg hmb HF1
  go_loopw [15] (fun s15 wr=>∃ k:Nat,k≤n∧s15 = .int .i64 (k:Int)∧Hid (MM.Row wr g 4 (bools (tkU n ((fs.take k).flatMap (·.l))))∧MM.Far [] w wr∧KW.MapI wr mb (arG 30))) (fun s15 _=>n - (intOf s15).toNat)
  case atStart=>exact ⟨0,by omega,rfl,Lib.hid ⟨H0.out.1,H0.out.2,HM1.out⟩⟩
  case round =>
    clear H0;obtain ⟨k,hk,rfl,hH⟩:=hrel;by_cases hlt:k < n
    · have hkl:k < fs.length:=by rw [HN.out];exact hlt
      obtain ⟨FA,fc,e,hFr⟩:=HF.out;injection e with e1 e2 e3;subst e1 e3;clear e2;obtain ⟨b,o,LA,lc,rfl,-,hb,d0,d1,d2,d3,d4,d5,d6,d7,hI⟩:=hFr k hkl;have gc (x:Nat):wr.cell? ⟨b,x,none⟩=w.cell? ⟨b,x,none⟩:=hH.out.2.1.cell (p:=⟨b,x,none⟩) hb (by simp);have c0:=(gc _).trans d0;have c1:=(gc _).trans d1;have c2:=(gc _).trans d2;have c3:=(gc _).trans d3;have c4:=(gc _).trans d4;have c5:=(gc _).trans d5;have c6:=(gc _).trans d6;have c7:=(gc _).trans d7;have HSL:=Lib.hid ((hI.more (Z':=[g]) (fun b hb=>.inr (by have:=HG0.out;rw [List.mem_singleton.1 hb];omega))).far hH.out.2.1 (by simp));clear d0 d1 d2 d3 d4 d5 d6 d7 gc hb hI hFr;obtain ⟨hgk,hltk⟩:=rok_hp HG.out k hkl;have hnd:=nd_front2 HND.out k hkl;have hllk:fs[k].l.length≤100000:=HL.out _ (List.getElem_mem hkl);have hkk:=Lib.hid (flat_take2 fs k hkl);have HFin:=Lib.hid (And.intro hnd (And.intro hltk hllk));have HGK:=Lib.hid hgk;clear hnd hltk hgk;generalize fs[k]=f at *;obtain ⟨fk,fa,fn,fA,fS,fw,fl⟩:=f;simp only at c0 c1 c2 c3 c4 c5 c6 c7 hllk HSL HFin hkk HGK
      obtain ⟨m,hm⟩:∃ m,fl.length=m:=⟨_,rfl⟩
      rw [hm] at c7 hllk HSL HGK;have HM:=Lib.hid hm;have HU:=Lib.hid (show k≤n by omega);obtain ⟨bx,hbx⟩:∃ bx,wr.heap.size=bx:=⟨_,rfl⟩
      have FX:=(MM.Far.refl [] wr).alloc (.cells (fC ⟨fk,fa,fn,fA,fS,fw,fl⟩ (.slice LA m lc)).toArray 39);have HBX:=Lib.hid (hbx ▸ MM.Row.new wr 39 (fC ⟨fk,fa,fn,fA,fS,fw,fl⟩ (.slice LA m lc)));have hgx:bx≠g:=by have:=hH.out.1.lt;omega
      have HGX:=Lib.hid hgx;have HH2:=Lib.hid (And.intro (hH.out.1.far FX (by simp)) (And.intro (hH.out.2.1.trans FX (by simp)) (hH.out.2.2.far FX (by simp))));have HSL2:=Lib.hid (HSL.out.far FX (by simp));clear hH hgx hm HSL FX
      go_upto_region 6 with (fail)
      rw [show (wr.alloc (.cells (fC ⟨fk,fa,fn,fA,fS,fw,fl⟩ (.slice LA m lc)).toArray 39))=wr.alloc (.cells #[.int .u8 fk,.int .i64 fa,.int .i64 fn,.int .i64 fA,.string fS,.slice none 0 0,.int .u64 fw,.slice LA m lc] 39) from rfl] at HBX HH2 HSL2;generalize wr.alloc (.cells #[.int .u8 fk,.int .i64 fa,.int .i64 fn,.int .i64 fA,.string fS,.slice none 0 0,.int .u64 fw,.slice LA m lc] 39)=W at *;clear c0 c1 c2 c3 c4 c5 c6 c7 hbx;have z0:W.cell? ⟨bx,0,none⟩=some (.int .u8 fk):=HBX.out.at (i:=0) rfl;have z1:W.cell? ⟨bx,1,none⟩=some (num fa):=HBX.out.at (i:=1) rfl;have z2:W.cell? ⟨bx,2,none⟩=some (num fn):=HBX.out.at (i:=2) rfl;have z3:W.cell? ⟨bx,3,none⟩=some (num fA):=HBX.out.at (i:=3) rfl;have z4:W.cell? ⟨bx,4,none⟩=some (.string fS):=HBX.out.at (i:=4) rfl;have z5:W.cell? ⟨bx,5,none⟩=some (.slice none 0 0):=HBX.out.at (i:=5) rfl;have z6:W.cell? ⟨bx,6,none⟩=some (.int .u64 fw):=HBX.out.at (i:=6) rfl;have z7:W.cell? ⟨bx,7,none⟩=some (.slice LA m lc):=HBX.out.at (i:=7) rfl;have hkm:(k:Int)≤(n:Int):=by omega
      have hk0:(0:Int)≤(k:Int):=by omega
      have FD:MM.Far [] W W.drew:=(MM.Far.refl [] W).drew;have HPA:=Lib.hid (parts_any (w:=W.drew) (mb:=mb) (f:=⟨fk,fa,fn,fA,fS,fw,fl⟩) (A:=LA) (m:=m) (c:=lc) (HH2.out.2.2.far FD (by simp)) HGK.out);have HTK:=Lib.hid (fun (wx:World) (f:MM.Far [] W wx)=>take_w (A:=LA) (k:=m) (lc:=lc) (m:=k) (c:=n) HH2.out.1 f HU.out HU.out (by omega) (rd_sl HSL2.out) HM.out HFin.out.2.1 HFin.out.1 (by have:=HFin.out.2.2;omega));have HFD:=Lib.hid FD;clear FD
      go_region_held3 (fun w'=>w'.cell? ⟨bx,0,none⟩=some (.int .u8 fk)∧w'.cell? ⟨bx,1,none⟩=some (num fa)∧w'.cell? ⟨bx,2,none⟩=some (num fn)∧w'.cell? ⟨bx,3,none⟩=some (num fA)∧w'.cell? ⟨bx,4,none⟩=some (.string fS)∧w'.cell? ⟨bx,5,none⟩=some (.slice none 0 0)∧w'.cell? ⟨bx,6,none⟩=some (.int .u64 fw)∧w'.cell? ⟨bx,7,none⟩=some (.slice LA m lc)) (first | (with_reducible assumption) | go_keep) (first
        | (go_at_call 34;(with_reducible refine HPA.out.mono ?_);rintro e w4 ⟨rfl,hF4⟩;have hk8:=kp8 hF4 (by assumption);have HF4:=Lib.hid (HFD.out.trans hF4 (by simp));clear hF4)
        | (go_at_call 35;(with_reducible refine (HTK.out _ HF4.out).mono ?_);rintro e w5 ⟨rfl,hR5,hF5⟩
           have hx5:=HBX.out.far hF5 (by simp [HGX.out]);have hk8:w5.cell? ⟨bx,0,none⟩=some (.int .u8 fk)∧w5.cell? ⟨bx,1,none⟩=some (num fa)∧w5.cell? ⟨bx,2,none⟩=some (num fn)∧w5.cell? ⟨bx,3,none⟩=some (num fA)∧w5.cell? ⟨bx,4,none⟩=some (.string fS)∧w5.cell? ⟨bx,5,none⟩=some (.slice none 0 0)∧w5.cell? ⟨bx,6,none⟩=some (.int .u64 fw)∧w5.cell? ⟨bx,7,none⟩=some (.slice LA m lc):=⟨hx5.at (i:=0) rfl,hx5.at (i:=1) rfl,hx5.at (i:=2) rfl,hx5.at (i:=3) rfl,hx5.at (i:=4) rfl,hx5.at (i:=5) rfl,hx5.at (i:=6) rfl,hx5.at (i:=7) rfl⟩
           have HR5:=Lib.hid hR5;have HF5:=Lib.hid hF5;clear hR5 hF5 hx5)
        | fail)
      have HE:Hid (MM.Row w5 g 4 (bools (tkU n ((fs.take (k+1)).flatMap (·.l))))∧MM.Far [] w w5∧KW.MapI w5 mb (arG 30)):=Lib.hid ⟨by rw [hkk.out];exact HR5.out,HH2.out.2.1.trans HF5.out (fun b hb hl=>by have:=HG0.out;rw [List.mem_singleton.1 hb] at hl;omega),HH2.out.2.2.far HF5.out (by simp;omega)⟩;go_wp2;go_roundw
      case rel=>exact ⟨k+1,by omega,by go_num,HE⟩
      case measure=>simp [intOf];omega
    · obtain rfl:k=n:=by omega
      have hr:=hH.out.1;rw [List.take_of_length_le (by rw [HN.out];exact Nat.le_refl _)] at hr;have HSL:=Lib.hid ((HT.out.more (Z':=[g]) (fun b hb=>.inr (by have:=HG0.out;rw [List.mem_singleton.1 hb];omega))).far hH.out.2.1 (by simp));have HTK:=Lib.hid (take_any (A:=T) (k:=tn) (lc:=tc) (m:=k) (c:=k) hr (Nat.le_refl _) (Nat.le_refl _) (by omega) HSL.out HTN.out (fun x hx=>by have:=HTL.out x hx;have:=HN.out;omega) HND.out (by have:=HTS.out;omega));have HFF:=Lib.hid hH.out.2.1;clear hH hr
      go_wp2_with (go_at_call 35;(with_reducible refine HTK.out.mono ?_);rintro e w5 ⟨rfl,hR5,hF5⟩;have HF5:=Lib.hid hF5;clear hR5 hF5)
      go_ret
      exact ⟨rfl,HFF.out.trans HF5.out (fun b hb hl=>by have:=HG0.out;rw [List.mem_singleton.1 hb] at hl;omega)⟩
end GW
end Go.Proofs.YtehgmmbdlnginaaGreatDoor
