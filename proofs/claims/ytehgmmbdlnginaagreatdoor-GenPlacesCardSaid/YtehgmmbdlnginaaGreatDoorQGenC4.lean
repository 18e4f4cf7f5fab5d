/-
  Several texts in one: GenC3,GenC4.
-/
import Derived.Test.YtehgmmbdlnginaaGreatDoorQScoR2
namespace Go.Proofs.YtehgmmbdlnginaaGreatDoor
open Go.RowKit
set_option linter.unusedVariables false
namespace GW
open LX SX RW6 EX KP SC GP
open EW (Sl Bx)
theorem push_succ (b:Nat):∀ (l:List Nat) (i:Nat),pushS b (l++[i])=pushS b l++[.val b i,.put b (ki 7 0 0 0)]:=by
  intro l i;induction l with
  | nil=>rfl
  | cons j l ih=>simp [pushS,ih]
section
variable (w:World) {Z:List Nat} (q:Nat) (ad:List Nat) (hz:∀ b∈Z,b < w.heap.size)
include hz
set_option maxHeartbeats 2000000 in
set_option maxRecDepth 20000 in
theorem pushed_any (b:Nat) {l:List Nat} {A:Option Addr} {m c:Nat} (hm:l.length=m) (hl:m≤100000) (h:Sl w Z (.slice A m c) (ints l)) :
    Calls Tryz.prog 143 #[ptr q,num b,.slice A m c] w (RowQ w Z q ad (pushS b l)):=by
  have HL:=Lib.hid h;have HM:=Lib.hid hm;have HZ:=Lib.hid hz;have HV:=Lib.hid (fun wr (hz:∀ b∈Z,b < wr.heap.size) i=>value_any wr q ad hz b i);have HP:=Lib.hid (fun wr (hz:∀ b∈Z,b < wr.heap.size)=>put_any wr q ad hz b (ki 7 0 0 0));have HPS:=Lib.hid (push_succ b);have H0:=Lib.hid (StI.nil w Z q ad);clear h hm hz;go_enter Tryz.func143,Tryz.ntmps143
  go_wp2_with (fail)
  go_loopw [7,12] (fun s7 s12 wr=>∃ (k j:Nat) (A:Option Addr) (c:Nat),k≤m∧s7 = .slice A j c∧j≤2*k∧s12=num k∧Hid (StI w wr Z q ad (.slice A j c) (pushS b (l.take k)))) (fun _ s12 _=>m - (intOf s12).toNat)
  case atStart=>exact ⟨0,0,none,0,by omega,rfl,by omega,rfl,H0⟩
  case round =>
    obtain ⟨k,j,A5,c5,hk,rfl,hj,rfl,hH⟩:=hrel;obtain ⟨vs,hO,hI,hF⟩:=hH.out;have hvs:vs.length=j:=by
      obtain ⟨A6,c6,e,_⟩:=MO.form hO;injection e with _ e _;exact e.symm
    have HVS:=Lib.hid hvs;by_cases hlt:k < m
    · have hk2:k < l.length:=by rw [HM.out];exact hlt
      have HT:Hid (l.take (k+1)=l.take k++[l[k]]):=Lib.hid (by rw [List.take_add_one,List.getElem?_eq_getElem hk2];rfl);obtain ⟨A',c',e,hc1,hc2,hc3⟩:=HL.out.far hF (by simp);injection e with e1 e2 e3;subst e1 e3;obtain ⟨g,o,rfl,hgz,hg,cc⟩:=hc3 k (.int .i64 ((l[k]:Nat):Int)) (by unfold ints;rw [List.getElem?_map,List.getElem?_eq_getElem hk2];rfl);have HC:=Lib.hid (HV.out wr (z_far HZ.out hF) l[k]);generalize l[k]=i at *;rw [hvs] at hO;have HO:=Lib.hid hO;have HI:=Lib.hid hI;have HF:=Lib.hid hF;have hwb:=hF.size;clear hk2 e2 hc1 hc2 hc3 hgz hg hO hI hF hH H0 hvs
      go_wp2_with (first
        | (go_at_call 117;refine HC.out.mono ?_;rintro e w1 ⟨v,rfl,hIv,hF1⟩;obtain ⟨vf,vl,rfl⟩:=hIv.func;have HIv:=Lib.hid hIv;have HF1:=Lib.hid hF1;have hw1:=Nat.le_trans hwb hF1.size;have HP1:=Lib.hid (HP.out w1 (z_far HZ.out (HF.out.trans hF1 (by simp))));clear hIv hF1)
        | (go_at_call 116;refine HP1.out.mono ?_;rintro e w2 ⟨v,rfl,hIv,hF2⟩;obtain ⟨vf2,vl2,rfl⟩:=hIv.func;have HI2:=Lib.hid (Iss.cons (HIv.out.far hF2 (by simp)) (Iss.one hIv));have HF2:=Lib.hid (HF1.out.trans hF2 (by simp));have hw2:=Nat.le_trans hw1 hF2.size;have HO1:=Lib.hid (MM.own_far HO.out HF2.out (by simp));clear hIv hF2)
        | (at_builtin;refine steps_push [.func (.func vf) #[] vl,.func (.func vf2) #[] vl2] 2 HO1.out hw2 (by omega) rfl (by omega) (by intro u hu;simp only [List.mem_cons,List.not_mem_nil,or_false] at hu;rcases hu with rfl | rfl <;> rfl) rfl (.tmp 16) (.tmp 25) rfl rfl rfl ?_;intro A7 c7 w3 hO2 hF3;have HN:=Lib.hid (StI.push (vs:=vs) (by rw [HVS.out];exact HO.out) HI.out HF.out HF2.out HI2.out (by rw [HVS.out];exact hO2) hF3);clear hO2 hF3))
      go_roundw
      case rel=>exact ⟨k+1,j+2,A7,c7,by omega,rfl,by omega,by go_num,Lib.hid (by rw [HT.out,HPS.out];exact HN.out)⟩
      case measure=>simp [intOf];omega
    · obtain rfl:k=m:=by omega
      have HQ:=Lib.hid (show RowQ w Z q ad (pushS b l) (.returned (.slice A5 j c5)) wr from ⟨_,vs,rfl,hO,by rw [← HM.out,List.take_length] at hI;exact hI,hF⟩);clear hO hI hF hH H0
      go_wp2_with (fail)
      go_ret
      exact HQ.out
set_option maxHeartbeats 2000000 in
theorem returned_any (b:Nat) {base n:Nat} {v:Value} {vs:List Value} {xs:List Stp} (hb:base≤w.heap.size) (hO:w.ownsRow base 141 1 v n vs) (hn:n≤1000000) (hI:Iss w Z q ad vs xs) :
    Calls Tryz.prog 75 #[ptr q,num b,v] w fun e w'=>∃ v' vs',e = .returned v'∧w'.ownsRow base 141 1 v' vs'.length vs'∧Iss w' Z q ad vs' (xs++[.put b (ki 16 0 0 0)])∧MM.Far v.ownBlock.toList w w':=by
  obtain ⟨A,c,rfl,_⟩:=MO.form hO;have hvs:vs.length=n:=by have:=hO.1;omega
  have HVS:=Lib.hid hvs;have HC:=Lib.hid (put_any w q ad hz b (ki 16 0 0 0));have HO:=Lib.hid hO;have HI:=Lib.hid hI;clear hO hI hz hvs;go_enter Tryz.func75,Tryz.ntmps75
  go_wp2_with (first
    | (go_at_call 116;refine HC.out.mono ?_;rintro e w1 ⟨v,rfl,hIv,hF1⟩;obtain ⟨vf,vl,rfl⟩:=hIv.func;have HIv:=Lib.hid hIv;have HF1:=Lib.hid hF1;have hw1:=Nat.le_trans hb hF1.size;have HO1:=Lib.hid (MM.own_far HO.out hF1 (by simp));clear hIv hF1)
    | (at_builtin;refine steps_push [.func (.func vf) #[] vl] 1 HO1.out hw1 (by omega) rfl (by omega) (by intro u hu;rw [List.mem_singleton] at hu;subst hu;rfl) rfl (.tmp 7) (.tmp 12) rfl rfl rfl ?_;intro A7 c7 w2 hO2 hF2;have HO2:=Lib.hid hO2;have HF2:=Lib.hid hF2;clear hO2 hF2))
  go_ret
  have hS:∀ b∈(Value.slice A n c).ownBlock.toList,b < w1.heap.size→(Value.slice A n c).ownBlock=some b:=fun b hb _=>by simpa using hb
  exact ⟨_,vs++[.func (.func vf) #[] vl],rfl,by rw [List.length_append,HVS.out];exact HO2.out,((HI.out.far HF1.out (by simp)).own HO1.out HF2.out hS).app ((Iss.one HIv.out).own HO1.out HF2.out hS),(HF1.out.mono (S':=(Value.slice A n c).ownBlock.toList) (fun b hb _=>by cases hb)).trans HF2.out (fun b hb _=>hb)⟩
end
theorem lookup_any (f:Rf) (A:Option Addr) (m c:Nat) (w:World):Calls Tryz.prog 140 #[fV f (.slice A m c)] w fun e w'=>e = .returned (KW.val (leafK f))∧MM.Far [] w w':=by
  obtain ⟨kind,at_,n,a,s,ww,l⟩:=f;unfold leafK ki;simp only
  by_cases k11:kind=11
  · subst k11;go_enter Tryz.func140,Tryz.ntmps140
    go_wp2;refine bodyPost_ret (v:=.agg #[.int .u8 2,.int .i64 a,.int .i64 n,.int .u64 0]) (by simp [results,Tryz.results140,go_sem]) rfl ⟨rfl,?_⟩
    exact ((MM.Far.refl [] w).alloc _).alloc _
  · have h11:(kind == 11)=false:=by simpa using k11
    rw [if_neg k11];by_cases k4:kind=4
    · subst k4;go_enter Tryz.func140,Tryz.ntmps140
      go_wp2;refine bodyPost_ret (v:=.agg #[.int .u8 3,.int .i64 n,.int .i64 0,.int .u64 0]) (by simp [results,Tryz.results140,go_sem]) rfl ⟨rfl,?_⟩
      exact ((MM.Far.refl [] w).alloc _).alloc _
    · have h4:(kind == 4)=false:=by simpa using k4
      rw [if_neg k4];go_enter Tryz.func140,Tryz.ntmps140
      go_wp2;refine bodyPost_ret (v:=.agg #[.int .u8 1,.int .i64 0,.int .i64 0,.int .u64 ww]) (by simp [results,Tryz.results140,go_sem]) rfl ⟨rfl,?_⟩
      exact ((MM.Far.refl [] w).alloc _).alloc _
theorem assignment_any (f:Rf) (A:Option Addr) (m c:Nat) (w:World):Calls Tryz.prog 138 #[fV f (.slice A m c)] w fun e w'=>e = .returned (KW.val (setK f))∧MM.Far [] w w':=by
  obtain ⟨kind,at_,n,a,s,ww,l⟩:=f;unfold setK ki;simp only
  by_cases k9:kind=9
  · subst k9;go_enter Tryz.func138,Tryz.ntmps138
    go_wp2;refine bodyPost_ret (v:=.agg #[.int .u8 6,.int .i64 n,.int .i64 0,.int .u64 0]) (by simp [results,Tryz.results138,go_sem]) rfl ⟨rfl,?_⟩
    exact ((MM.Far.refl [] w).alloc _).alloc _
  · have h9:(kind == 9)=false:=by simpa using k9
    rw [if_neg k9];by_cases h0:a < 0
    · rw [if_pos h0];go_enter Tryz.func138,Tryz.ntmps138
      go_wp2;refine bodyPost_ret (v:=.agg #[.int .u8 5,.int .i64 n,.int .i64 0,.int .u64 0]) (by simp [results,Tryz.results138,go_sem]) rfl ⟨rfl,?_⟩
      exact ((MM.Far.refl [] w).alloc _).alloc _
    · rw [if_neg h0];go_enter Tryz.func138,Tryz.ntmps138
      go_wp2;refine bodyPost_ret (v:=.agg #[.int .u8 4,.int .i64 a,.int .i64 n,.int .u64 0]) (by simp [results,Tryz.results138,go_sem]) rfl ⟨rfl,?_⟩
      exact ((MM.Far.refl [] w).alloc _).alloc _
end GW
end Go.Proofs.YtehgmmbdlnginaaGreatDoor
namespace Go.Proofs.YtehgmmbdlnginaaGreatDoor
open Go.RowKit
set_option linter.unusedVariables false
namespace GW
open LX SX RW6 EX KP SC GP
open EW (Sl Bx)
structure Acc (w0 w:World) (Z:List Nat) (q:Nat) (ad:List Nat) (vs:List Value) (xs:List Stp):Prop where
  iss:Iss w Z q ad vs xs
  far:MM.Far [] w0 w
  z:∀ b∈Z,b < w.heap.size
theorem Acc.step {w0 w w':World} {Z:List Nat} {q:Nat} {ad:List Nat} {vs:List Value} {xs:List Stp} {v:Value} {x:Stp} (h:Acc w0 w Z q ad vs xs) (hI:IsS w' Z q ad v x) (hF:MM.Far [] w w'):Acc w0 w' Z q ad (vs++[v]) (xs++[x]) :=
  ⟨(h.iss.far hF (by simp)).app (Iss.one hI),h.far.trans hF (by simp),z_far h.z hF⟩
theorem Acc.go {w0 w w':World} {Z:List Nat} {q:Nat} {ad:List Nat} {vs:List Value} {xs:List Stp} (h:Acc w0 w Z q ad vs xs) (hF:MM.Far [] w w'):Acc w0 w' Z q ad vs xs :=
  ⟨h.iss.far hF (by simp),h.far.trans hF (by simp),z_far h.z hF⟩
theorem Acc.dr {w0 w:World} {Z:List Nat} {q:Nat} {ad:List Nat} {vs:List Value} {xs:List Stp} (h:Acc w0 w Z q ad vs xs):Acc w0 w.drew Z q ad vs xs:=h.go (MM.Far.refl [] w).drew
theorem Acc.nil {w0 w:World} {Z:List Nat} (q:Nat) (ad:List Nat) (hF:MM.Far [] w0 w) (hz:∀ b∈Z,b < w0.heap.size):Acc w0 w Z q ad [] []:=⟨Iss.nil _ _ _ _,hF,z_far hz hF⟩
theorem Acc.row {w0 w:World} {Z:List Nat} {q:Nat} {ad:List Nat} {vs:List Value} {xs:List Stp} {n:Nat} {W:World} (h:Acc w0 W Z q ad vs xs) (hw:w=W.alloc (.cells vs.toArray 141)) (hn:vs.length=n) (hm:n≤1000000) :
    RowQ w0 Z q ad xs (.returned (.slice (some ⟨W.heap.size,0,none⟩) n n)) w:=by
  subst hw;have FN:=(MM.Far.refl [] W).alloc (.cells vs.toArray 141);refine ⟨_,vs,rfl,?_,h.iss.far FN (by simp),h.far.trans FN (by simp)⟩
  rw [hn];exact own_new h.far.size hn (by simp only [maxLen];omega)
theorem own_mono {w:World} {B B' size n:Nat} {t:TypeId} {v:Value} {xs:List Value} (h:w.ownsRow B t size v n xs) (hB:B'≤B):w.ownsRow B' t size v n xs:=by
  obtain ⟨h1,h2⟩:=h;refine ⟨h1,?_⟩
  rcases h2 with h2 | ⟨g,cap,cur,e,hb,h3⟩
  · exact .inl h2
  · exact .inr ⟨g,cap,cur,e,by omega,h3⟩
@[reducible] def fC (f:Rf) (lv:Value):List Value:=[.int .u8 f.kind,num f.at_,num f.n,num f.a,.string f.s,.slice none 0 0,.int .u64 f.w,lv]
theorem sl_at {w:World} {Z:List Nat} {A:Option Addr} {n c k:Nat} {l:List Nat} {i:Nat} (h:Sl w Z (.slice A n c) (ints l)) (hi:l[k]? = some i):∃ g o,A=some ⟨g,o,none⟩∧g∉Z∧g < w.heap.size∧w.cell? ⟨g,o+k,none⟩=some (num i):=by
  obtain ⟨A',c',e,_,_,h3⟩:=h;injection e with e1 _ _;subst e1;exact h3 k (num i) (by unfold ints;rw [List.getElem?_map,hi];rfl)
theorem keep2 {w w':World} {p1 p2:Addr} {v1 v2:Value} (f:MM.Far [] w w') (h:w.cell? p1=some v1∧w.cell? p2=some v2):w'.cell? p1=some v1∧w'.cell? p2=some v2 :=
  ⟨far_cell f h.1 (MR.cell_lt h.1),far_cell f h.2 (MR.cell_lt h.2)⟩
theorem keep3 {w w':World} {p1 p2 p3:Addr} {v1 v2 v3:Value} (f:MM.Far [] w w') (h:w.cell? p1=some v1∧w.cell? p2=some v2∧w.cell? p3=some v3):w'.cell? p1=some v1∧w'.cell? p2=some v2∧w'.cell? p3=some v3 :=
  ⟨far_cell f h.1 (MR.cell_lt h.1),keep2 f h.2⟩
theorem keep4 {w w':World} {p1 p2 p3 p4:Addr} {v1 v2 v3 v4:Value} (f:MM.Far [] w w') (h:w.cell? p1=some v1∧w.cell? p2=some v2∧w.cell? p3=some v3∧w.cell? p4=some v4):w'.cell? p1=some v1∧w'.cell? p2=some v2∧w'.cell? p3=some v3∧w'.cell? p4=some v4 :=
  ⟨far_cell f h.1 (MR.cell_lt h.1),keep3 f h.2⟩
section
variable {base:Nat} {w:World} {q:Nat} {fv bv:Value} {ks:List Value} {ad:List Nat} {s:Gs}
theorem Mg.note (h:Mg base w q fv bv ks ad s) {a:Nat} (hr:MM.Row w a 3 [num 0]) (ha:base≤a) (hn:a∉ad):Mg base w q fv bv ks (ad++[a]) ⟨s.bs,s.bx++[0]⟩:=by
  have hal:=h.alen;refine ⟨h.head,h.qb,h.main,h.klen,h.kid,h.apart,by simp [hal],fun i a' n h1 h2=>?_,?_,fun b hb=>?_⟩
  · by_cases hi:i < ad.length
    · rw [List.getElem?_append_left hi] at h1;rw [List.getElem?_append_left (by omega)] at h2;exact h.box i a' n h1 h2
    · have hi2:i=ad.length:=by have:=(List.getElem?_eq_some_iff.1 h1).1;simp at this;omega
      subst hi2;rw [List.getElem?_append_right (Nat.le_refl _)] at h1;rw [hal,List.getElem?_append_right (Nat.le_refl _)] at h2;simp at h1 h2
      subst h1;subst h2;exact hr
  · rw [List.nodup_append];refine ⟨h.anod,by simp,fun x hx y hy e=>?_⟩
    rw [List.mem_singleton] at hy;subst hy;subst e;exact hn hx
  · rcases List.mem_append.1 hb with hb | hb
    · exact h.abase b hb
    · rw [List.mem_singleton] at hb;subst hb;exact ⟨ha,hr.lt⟩
end
theorem mem_Z2 {q:Nat} {bv:Value} {ks:List Value} {ad t:List Nat} {b:Nat} (h:b∈Zof q bv ks (ad++t)):b∈Zof q bv ks ad∨b∈t:=by
  rcases mem_Z.1 h with h | h | h | h
  · exact .inl (mem_Z.2 (.inl h))
  · exact .inl (mem_Z.2 (.inr (.inl h)))
  · exact .inl (mem_Z.2 (.inr (.inr (.inl h))))
  · rcases List.mem_append.1 h with h | h
    · exact .inl (mem_Z.2 (.inr (.inr (.inr h))))
    · exact .inr h
theorem callQ_of {base:Nat} {w W w':World} {q:Nat} {fv bv:Value} {ks:List Value} {ad t:List Nat} {s2:Gs} {xs:List Stp} {e:Ending} (hM:Mg base W q fv bv ks (ad++t) s2) (hF:MM.Far [] w W) (hR:RowQ W (Zof q bv ks (ad++t)) q (ad++t) xs e w') (ht:∀ a∈t,w.heap.size≤a):CallQ base w q fv bv ks ad (xs,s2) e w':=by
  obtain ⟨v,vs,rfl,h1,h2,h3⟩:=hR;refine ⟨bv,ks,t,v,vs,rfl,hM.far h3 (by simp),own_mono h1 hF.size,h2,(hF.trans h3 (by simp)).mono (fun b hb _=>by cases hb),fun b hb=>?_⟩
  rcases mem_Z2 hb with h | h
  · exact .inl h
  · exact .inr (ht b h)
section
variable {base:Nat} {w:World} {q:Nat} {fv bv:Value} {ks:List Value} {ad:List Nat} {s:Gs}
set_option maxHeartbeats 4000000 in
set_option maxRecDepth 20000 in
theorem choice_any (hM:Mg base w q fv bv ks ad s) (hb:base≤w.heap.size) (b:Nat) {f:Rf} {A:Option Addr} {c:Nat} {Y:List Nat} (hl:f.l.length=3) (hS:Sl w Y (.slice A 3 c) (ints f.l)) :
    Calls Tryz.prog 136 #[ptr q,num b,fV f (.slice A 3 c)] w (CallQ base w q fv bv ks ad (ifS b s.bx.length f,⟨s.bs,s.bx++[0,0]⟩)):=by
  obtain ⟨kind,at_,n,a,st,ww,l⟩:=f;simp only at hl hS
  obtain ⟨x0,x1,x2,rfl⟩:∃ a b c,l=[a,b,c]:=by
    match l,hl with
    | [a,b,c],_=>exact ⟨a,b,c,rfl⟩
  obtain ⟨g,o,rfl,hg1,hg2,d0⟩:=sl_at (k:=0) hS rfl;obtain ⟨g',o',e,_,_,d1⟩:=sl_at (k:=1) hS rfl;injection e with e;injection e with ea eb;subst ea;subst eb;obtain ⟨g',o',e,_,_,d2⟩:=sl_at (k:=2) hS rfl;injection e with e;injection e with ea eb;subst ea;subst eb;obtain ⟨W1,hW1⟩:∃ W,w.alloc (.cells (fC ⟨kind,at_,n,a,st,ww,[x0,x1,x2]⟩ (.slice (some ⟨g,o,none⟩) 3 c)).toArray 39)=W:=⟨_,rfl⟩
  obtain ⟨W2,hW2⟩:∃ W,W1.alloc (.cells #[num 0] 3)=W:=⟨_,rfl⟩
  obtain ⟨W3,hW3⟩:∃ W,W2.alloc (.cells #[num 0] 3)=W:=⟨_,rfl⟩
  have F1:MM.Far [] w W1:=by rw [← hW1];exact (MM.Far.refl [] w).alloc _
  have F2:MM.Far [] W1 W2:=by rw [← hW2];exact (MM.Far.refl [] W1).alloc _
  have F3:MM.Far [] W2 W3:=by rw [← hW3];exact (MM.Far.refl [] W2).alloc _
  have s1:W1.heap.size=w.heap.size+1:=by rw [← hW1];exact sz_alloc _ _
  have s2:W2.heap.size=w.heap.size+1+1:=by rw [← hW2,sz_alloc,s1]
  have r0:MM.Row W1 w.heap.size 39 (fC ⟨kind,at_,n,a,st,ww,[x0,x1,x2]⟩ (.slice (some ⟨g,o,none⟩) 3 c)):=by rw [← hW1];exact MM.Row.new w _ _
  have r1:MM.Row W2 (w.heap.size+1) 3 [num 0]:=by rw [← hW2];exact row_new _ [num 0] s1
  have r2:MM.Row W3 (w.heap.size+1+1) 3 [num 0]:=by rw [← hW3];exact row_new _ [num 0] s2
  have hM3:=(hM.far ((F1.trans F2 (by simp)).trans F3 (by simp)) (by simp))
  have hM4:=hM3.note (a:=w.heap.size+1) (r1.far F3 (by simp)) (by omega) (fun hm=>by have:=(hM.abase _ hm).2;omega);have hM5:=hM4.note (a:=w.heap.size+1+1) r2 (by omega) (fun hm=>by
    rcases List.mem_append.1 hm with hm | hm
    · have:=(hM.abase _ hm).2;omega
    · simp at hm)
  rw [List.append_assoc] at hM5;simp only [List.append_assoc] at hM5
  have HM:=Lib.hid (show Mg base W3 q fv bv ks (ad++[w.heap.size+1,w.heap.size+1+1]) ⟨s.bs,s.bx++[0,0]⟩ from hM5);have F03:=(F1.trans F2 (by simp)).trans F3 (by simp);have HF:=Lib.hid F03;have HZ0:=Lib.hid (fun b hb=>(hM.z b hb).1);have hal:=hM.alen;have HA1:Hid ((ad++[w.heap.size+1,w.heap.size+1+1])[s.bx.length]? = some (w.heap.size+1)):=Lib.hid (by rw [← hal,List.getElem?_append_right (Nat.le_refl _),Nat.sub_self];rfl);have HA2:Hid ((ad++[w.heap.size+1,w.heap.size+1+1])[s.bx.length+1]? = some (w.heap.size+1+1)):=Lib.hid (by rw [← hal,List.getElem?_append_right (by omega),Nat.add_sub_cancel_left];rfl);have c7:W3.cell? ⟨w.heap.size,7,none⟩=some (.slice (some ⟨g,o,none⟩) 3 c):=((r0.far F2 (by simp)).far F3 (by simp)).at (i:=7) rfl;have d0':=far_cell F03 d0 hg2;have d1':=far_cell F03 d1 hg2;have d2':=far_cell F03 d2 hg2;obtain ⟨ad2,had2⟩:∃ ad2,ad++[w.heap.size+1,w.heap.size+1+1]=ad2:=⟨_,rfl⟩
  rw [had2] at HM HA1 HA2;have HA:=Lib.hid (Acc.nil (w:=W3) q ad2 (MM.Far.refl [] W3) (fun b hb=>(HM.out.z b hb).1));have HAD:=Lib.hid had2;clear had2;clear d0 d1 d2 hM hM3 hM4 hM5 r0 r1 r2 F1 F2 F3 F03 hS hg1 hg2 hl hal;subst hW1;subst hW2;subst hW3;rw [Nat.add_zero] at d0';go_enter Tryz.func136,Tryz.ntmps136
  go_wp2;generalize ((w.alloc (.cells (fC ⟨kind,at_,n,a,st,ww,[x0,x1,x2]⟩ (.slice (some ⟨g,o,none⟩) 3 c)).toArray 39)).alloc (.cells #[num 0] 3)).alloc (.cells #[num 0] 3)=W at *
  go_region_held3 (fun w'=>w'.cell? ⟨w.heap.size,7,none⟩=some (.slice (some ⟨g,o,none⟩) 3 c)∧w'.cell? ⟨g,o,none⟩=some (num x0)∧w'.cell? ⟨g,o+1,none⟩=some (num x1)∧w'.cell? ⟨g,o+2,none⟩=some (num x2)) (first | (with_reducible assumption) | go_keep) (first
    | (go_at_call 117;(first | (with_reducible refine (value_any _ q ad2 HA.out.z b _).mono ?_) | (have HA:=Lib.hid HA.out.dr;(with_reducible refine (value_any _ q ad2 HA.out.z b _).mono ?_)));rintro e w1 ⟨v,rfl,hI,hF⟩;obtain ⟨vf,vl,rfl⟩:=hI.func;have hk:=keep4 hF (by assumption);have HA:=Lib.hid (HA.out.step hI hF);clear hI hF)
    | (go_at_call 141;(with_reducible refine (leap_any _ q ad2 HA.out.z b 9 _ _ HA1.out).mono ?_);rintro e w1 ⟨v,rfl,hI,hF⟩;obtain ⟨vf,vl,rfl⟩:=hI.func;have hk:=keep4 hF (by assumption);have HA:=Lib.hid (HA.out.step hI hF);clear hI hF)
    | (go_at_call 141;(with_reducible refine (leap_any _ q ad2 HA.out.z b 8 _ _ HA2.out).mono ?_);rintro e w1 ⟨v,rfl,hI,hF⟩;obtain ⟨vf,vl,rfl⟩:=hI.func;have hk:=keep4 hF (by assumption);have HA:=Lib.hid (HA.out.step hI hF);clear hI hF)
    | (go_at_call 142;(with_reducible refine (land_any _ q ad2 HA.out.z b _ _ HA1.out).mono ?_);rintro e w1 ⟨v,rfl,hI,hF⟩;obtain ⟨vf,vl,rfl⟩:=hI.func;have hk:=keep4 hF (by assumption);have HA:=Lib.hid (HA.out.step hI hF);clear hI hF)
    | (go_at_call 142;(with_reducible refine (land_any _ q ad2 HA.out.z b _ _ HA2.out).mono ?_);rintro e w1 ⟨v,rfl,hI,hF⟩;obtain ⟨vf,vl,rfl⟩:=hI.func;have hk:=keep4 hF (by assumption);have HA:=Lib.hid (HA.out.step hI hF);clear hI hF))
  go_wp2;go_ret
  have HAD2:=HAD.out;subst HAD2;exact callQ_of HM.out HF.out (HA.out.row rfl rfl (by omega)) (fun a ha=>by simp at ha;omega)
end
end GW
end Go.Proofs.YtehgmmbdlnginaaGreatDoor
