/-
  Layer 8's document: pairs. Conditions: only names have a text; the row of data may be.
-/
import Derived.Test.YtehgmmbdlnginaaGreatDoorQExpRa
namespace Go.Proofs.YtehgmmbdlnginaaGreatDoor
open Go.RowKit
set_option linter.unusedVariables false
namespace EX
open LX RX SX
def dpairsG (ns:List Nd):List Nat→List Nat→List Nat→Option (List Nat × List Nat)
  | [],bs,vs=>some (bs,vs)
  | i::l,bs,vs=>if (ndAt ns i).l.length=2 then (if nameOf ns ((ndAt ns i).l.getD 0 0)=none then none else dpairsG ns l (bs++[(ndAt ns i).l.getD 0 0]) (vs++[(ndAt ns i).l.getD 1 0])) else none
def dpairs (ns:List Nd) (i:Nat):Option (List Nat × List Nat):=if (ndAt ns i).kind=4 then dpairsG ns (ndAt ns i).l [] [] else none
theorem dpairsG_some {ns:List Nd}:∀ (l bs vs:List Nat) (r:List Nat × List Nat),dpairsG ns l bs vs=some r→(∀ i∈bs,nameOf ns i≠none)→pairsG ns l bs vs=some r∧∀ i∈r.1,nameOf ns i≠none:=by
  intro l;induction l with
  | nil =>
    intro bs vs r e hb;simp only [dpairsG,Option.some.injEq] at e
    subst e;exact ⟨rfl,hb⟩
  | cons i l ih =>
    intro bs vs r e hb;unfold dpairsG at e;unfold pairsG;by_cases h2:(ndAt ns i).l.length=2
    · rw [if_pos h2] at e ⊢;by_cases hn:nameOf ns ((ndAt ns i).l.getD 0 0)=none
      · rw [if_pos hn] at e;cases e
      · rw [if_neg hn] at e;exact ih _ _ _ e (fun j hj=>by
          rcases List.mem_append.1 hj with hj | hj
          · exact hb j hj
          · have:j=(ndAt ns i).l.getD 0 0:=by simpa using hj
            rw [this];exact hn)
    · rw [if_neg h2] at e;cases e
theorem pairsG_pre {ns:List Nd}:∀ (l bs vs:List Nat) (r:List Nat × List Nat),pairsG ns l bs vs=some r→∀ i∈bs,i∈r.1:=by
  intro l;induction l with
  | nil =>
    intro bs vs r e i hi;simp only [pairsG,Option.some.injEq] at e
    subst e;exact hi
  | cons j l ih =>
    intro bs vs r e i hi;unfold pairsG at e;split at e
    · exact ih _ _ _ e i (List.mem_append_left _ hi)
    · cases e
theorem dpairsG_none {ns:List Nd}:∀ (l bs vs:List Nat),dpairsG ns l bs vs=none→∀ r,pairsG ns l bs vs=some r→∃ i∈r.1,nameOf ns i=none:=by
  intro l;induction l with
  | nil=>intro bs vs e;cases e
  | cons i l ih =>
    intro bs vs e r er;unfold dpairsG at e;unfold pairsG at er;by_cases h2:(ndAt ns i).l.length=2
    · rw [if_pos h2] at e er;by_cases hn:nameOf ns ((ndAt ns i).l.getD 0 0)=none
      · exact ⟨_,pairsG_pre _ _ _ _ er _ (List.mem_append_right _ (List.mem_singleton_self _)),hn⟩
      · rw [if_neg hn] at e;exact ih _ _ e r er
    · rw [if_neg h2] at er;cases er
theorem namesG_none {ns:List Nd}:∀ (l:List Nat) (acc:List ByteArray),(∃ i∈l,nameOf ns i=none)→namesG ns l acc=none:=by
  intro l;induction l with
  | nil=>rintro acc ⟨i,hi,_⟩;cases hi
  | cons j l ih =>
    rintro acc ⟨i,hi,hn⟩;unfold namesG
    rcases List.mem_cons.1 hi with rfl | hi
    · rw [hn]
    · split
      · rfl
      · split
        · rfl
        · exact ih _ ⟨i,hi,hn⟩
theorem starG_none {ns:List Nd}:∀ (l:List Nat) (acc:List ByteArray),(∃ i∈l,nameOf ns i=none)→starG ns l acc=none:=by
  intro l;induction l with
  | nil=>rintro acc ⟨i,hi,_⟩;cases hi
  | cons j l ih =>
    rintro acc ⟨i,hi,hn⟩;unfold starG
    rcases List.mem_cons.1 hi with rfl | hi
    · rw [hn]
    · split
      · rfl
      · exact ih _ ⟨i,hi,hn⟩
theorem nameOf_s {ns:List Nd} {i:Nat} {s:ByteArray} (h:nameOf ns i=some s):s=(ndAt ns i).s:=by
  unfold nameOf at h;split at h
  · cases h
  · injection h with h;exact h.symm
theorem starG_some {ns:List Nd}:∀ (l:List Nat) (acc:List ByteArray),(∀ i∈l,nameOf ns i≠none)→starG ns l acc=some (acc++l.map fun i=>(ndAt ns i).s):=by
  intro l;induction l with
  | nil=>intro acc _;simp [starG]
  | cons j l ih =>
    intro acc h;unfold starG;cases hj:nameOf ns j with
    | none=>exact absurd hj (h j (List.mem_cons_self ..))
    | some s =>
      simp only []
      rw [ih _ (fun i hi=>h i (List.mem_cons_of_mem _ hi)),nameOf_s hj];simp
theorem dpairs_some {ns:List Nd} {i:Nat} {bs vs:List Nat} (h:dpairs ns i=some (bs,vs)):pairsOf ns i=some (bs,vs)∧∀ i∈bs,nameOf ns i≠none:=by
  unfold dpairs at h;split at h
  · rename_i hk;obtain ⟨h1,h2⟩:=dpairsG_some _ _ _ _ h (fun i hi=>by cases hi);refine ⟨?_,h2⟩
    unfold pairsOf;rw [h1];simp only []
    rw [if_pos hk]
  · cases h
theorem dpairs_none {ns:List Nd} {i:Nat} (h:dpairs ns i=none) (r:List Nat × List Nat) (hr:pairsOf ns i=some r):∃ i∈r.1,nameOf ns i=none:=by
  unfold dpairs at h;unfold pairsOf at hr;split at hr
  · cases hr
  · rename_i r' e;split at hr
    · rename_i hk;injection hr with hr;subst hr;rw [if_pos hk] at h;exact dpairsG_none _ _ _ h _ e
    · cases hr
theorem letP_eq (ns:List Nd) (a:Int) (r:List Nat):letP ns a r=match dpairs ns (r.getD 0 0) with
    | none=>.bad a
    | some (bs,vs)=>match namesOf ns bs with
      | none=>.bad a
      | some names=>call a names (body a (r.drop 1)) (vs.map .dat):=by
  unfold letP;cases hd:dpairs ns (r.getD 0 0) with
  | none =>
    simp only []
    cases hp:pairsOf ns (r.getD 0 0) with
    | none=>rfl
    | some p =>
      obtain ⟨bs,vs⟩:=p;simp only []
      rw [show namesOf ns bs=none from namesG_none _ _ (dpairs_none hd _ hp)]
  | some p =>
    obtain ⟨bs,vs⟩:=p;rw [(dpairs_some hd).1];rfl
theorem starP_eq (ns:List Nd) (a:Int) (r:List Nat):starP ns a r=match dpairs ns (r.getD 0 0) with
    | none=>.bad a
    | some (bs,vs)=>nestedP a (bs.map fun i=>(ndAt ns i).s) vs (body a (r.drop 1)):=by
  unfold starP;cases hd:dpairs ns (r.getD 0 0) with
  | none =>
    simp only []
    cases hp:pairsOf ns (r.getD 0 0) with
    | none=>rfl
    | some p =>
      obtain ⟨bs,vs⟩:=p;simp only []
      rw [starG_none _ _ (dpairs_none hd _ hp)]
  | some p =>
    obtain ⟨bs,vs⟩:=p;rw [(dpairs_some hd).1];simp only []
    rw [starG_some _ _ (dpairs_some hd).2];simp
end EX
namespace EW
open LX SX RW6 EX
open RX (Nd)
open RM6 (Kin)
def PairJ (w:World) (bv vv:Value) (bs vs:List Nat) (wr:World):Prop:=MM.Far [] w wr∧Kin wr w.heap.size [(bv,bs),(vv,vs)]
def dpairsR (o:Option (List Nat × List Nat)) (w':World) (Z:List Nat) (e:Ending):Prop:=match o with
  | none=>e = .returned (.tuple #[.slice none 0 0,.slice none 0 0,.bool false])
  | some (bs,vs)=>∃ bv vv,e = .returned (.tuple #[bv,vv,.bool true])∧Sl w' Z bv (ints bs)∧Sl w' Z vv (ints vs)
section
variable {w0 w:World} {E:List Nat} {q:Nat} {DA:Option Addr} {n c:Nat} {ns:List Nd} {fv:Value} {X:Except Int (List Fm)} {B:Nat}
theorem slist_at (h:Stx w0 w E q (.slice DA n c) fv X B) (D:Dta w0 DA n ns) {i:Nat} (hi:i < n) (least:Nat) (z:Int) (hz:((least:Nat):Int)=z) (hl:least≤10) :
    Calls Tryz.prog 129 #[ptr q,num i,num z] w fun e w'=>e = .returned (.bool (decide ((ndAt ns i).kind=4∧least≤(ndAt ns i).l.length)))∧w=w':=by
  subst hz;exact slist_any h D hi least hl
set_option maxHeartbeats 4000000 in
set_option maxRecDepth 20000 in
theorem spairs_any (h:Stx w0 w E q (.slice DA n c) fv X B) (D:Dta w0 DA n ns) {i:Nat} (hi:i < n) :
    Calls Tryz.prog 103 #[ptr q,num i] w fun e w'=>dpairsR (dpairs ns i) w' (E++Zx q fv) e∧MM.Far [] w w':=by
  have HST:=Lib.hid h;have HD:=Lib.hid D;have HLI:=Lib.hid (slist_at h D hi 0 0 rfl (by omega));obtain ⟨b,o,LA,lc,rfl,hb,d0,d1,d2,d3,d4,hSl⟩:=h.dat D hi;have c0:=h.q0;have hi0:(0:Int)≤(i:Int):=by omega
  have hi1:(i:Int) < (n:Int):=by omega
  have hkl:=D.few i;have HDAT:=Lib.hid (fun (wr:World) (f:MM.Far [] w wr) (p:Nat) (hp:p < n)=>(h.to f).dat D hp);have HLS:=Lib.hid (fun (wr:World) (f:MM.Far [] w wr) (p:Nat) (hp:p < n)=>slist_at (h.to f) D hp 2 2 rfl (by omega));have HNM:=Lib.hid (fun (wr:World) (f:MM.Far [] w wr) (p:Nat) (hp:p < n)=>sname_any (h.to f) D hp);have HIN:Hid (∀ p∈(ndAt ns i).l,p < n):=Lib.hid (fun p hp=>D.len ▸ (kid D.ok hp).2);have HKID:Hid (∀ p x,x∈(ndAt ns p).l→x < n):=Lib.hid (fun p x hx=>D.len ▸ (kid D.ok hx).2);have HLEAF:=Lib.hid D.leaf;have HZ:=Lib.hid h.zlt;have HKL:=Lib.hid D.few;unfold dpairs;generalize ndAt ns i=d at *;obtain ⟨kd,at_,nn,s,l⟩:=d;simp only at *
  by_cases h4:kd=4
  · subst h4;rw [if_pos rfl];have h8:decide ((4:Int)=4∧0≤l.length)=true:=decide_eq_true ⟨rfl,Nat.zero_le _⟩;rw [h8] at HLI;clear h8;obtain ⟨m,hm⟩:∃ m,l.length=m:=⟨_,rfl⟩
    rw [hm] at d4 hSl hkl;have HM:=Lib.hid hm;have HL:=Lib.hid hSl;obtain ⟨R,hR⟩:∃ R,dpairsG ns l [] []=R:=⟨_,rfl⟩
    rw [hR];have HG:=Lib.hid hR;have HI0:Hid (PairJ w (.slice none 0 0) (.slice none 0 0) [] [] w):=Lib.hid ⟨MM.Far.refl [] w,⟨fun k hk=>by
      simp only [List.mem_cons,List.not_mem_nil,or_false] at hk
      rcases hk with rfl | rfl <;> exact MO.none_ _ _ _ _,by simp [Value.ownBlock]⟩⟩
    clear h hSl hm hR D;unfold ptr num at *;go_enter Tryz.func103,Tryz.ntmps103
    go_wp2_with (first
      | (go_at_call 129;(with_reducible refine HLI.out.mono ?_);rintro e w1 ⟨rfl,rfl⟩))
    go_loopw [7,8,9] (fun s7 s8 s9 wr=>∃ (k:Nat) (bs vs:List Nat) (A1:Option Addr) (c1:Nat) (A2:Option Addr) (c2:Nat),k≤m∧s9 = .int .i64 (k:Int)∧s7 = .slice A1 bs.length c1∧s8 = .slice A2 vs.length c2∧bs.length=k∧vs.length=k∧Hid (PairJ w (.slice A1 bs.length c1) (.slice A2 vs.length c2) bs vs wr∧dpairsG ns (l.drop k) bs vs=R)) (fun _ _ s9 _=>m - (intOf s9).toNat)
    case atStart=>exact ⟨0,[],[],none,0,none,0,by omega,rfl,rfl,rfl,rfl,rfl,Lib.hid ⟨HI0.out,HG.out⟩⟩
    case round =>
      obtain ⟨k,bs,vs,A1,c1,A2,c2,hk,rfl,rfl,rfl,hbl,hvl,hH⟩:=hrel;obtain ⟨⟨hF,hK⟩,hG⟩:=hH.out;have HF:=Lib.hid hF;have HK:=Lib.hid hK;have HBL:=Lib.hid hbl;have HVL:=Lib.hid hvl;have q0:=far_cell HF.out c0;have q4:=far_cell HF.out d4;clear hF hK hH HI0 HG hbl hvl;by_cases hlt:k < m
      · have hk2:k < l.length:=by rw [HM.out];exact hlt
        obtain ⟨A',c',e,hc1,hc2,hc3⟩:=HL.out.far HF.out (by simp);injection e with e1 e2 e3;subst e1 e3;obtain ⟨g,o2,rfl,hz,hg,cc⟩:=hc3 k (.int .i64 ((l[k]:Nat):Int)) (by unfold ints;rw [List.getElem?_map,List.getElem?_eq_getElem hk2];rfl);have hix:l[k] < n:=HIN.out _ (List.getElem_mem hk2);rw [List.drop_eq_getElem_cons hk2] at hG;generalize l[k]=p at *;unfold dpairsG at hG;obtain ⟨b',o',LB,lb,e,_,g0,g1,g2,g3,g4,hS2⟩:=HDAT.out w (MM.Far.refl [] w) p hix;injection e with e;injection e with ea eb;subst ea;subst eb;have q5:=far_cell HF.out g4;have hp0:(0:Int)≤(p:Int):=by omega
        have hp1:(p:Int) < (n:Int):=by omega
        have hpl:=HKL.out p;have HLp:=Lib.hid (HLS.out wr HF.out p hix);have hlf:=HLEAF.out p;have hkd:=HKID.out p;generalize ndAt ns p=dp at *;obtain ⟨kp,ap,np,sp,lp⟩:=dp;simp only at *
        clear hk2 e2 hc1 hc2 hc3 hz hg g0 g1 g2 g3;by_cases h2:lp.length=2
        · obtain ⟨x,y,rfl⟩:∃ x y,lp=[x,y]:=by
            obtain ⟨x,y,t,rfl⟩:=two (r:=lp) (by omega);have:t=[]:=by simpa using h2
            subst this;exact ⟨x,y,rfl⟩
          have hk4:kp=4:=Classical.byContradiction (fun hne=>by have:=hlf hne;cases this);rw [show decide (kp=4∧2≤[x,y].length)=true from decide_eq_true ⟨hk4,by simp⟩] at HLp;rw [if_pos h2] at hG;simp only [List.getD_cons_zero,List.getD_cons_succ] at hG
          have HNp:=Lib.hid (HNM.out wr HF.out x (hkd x (by simp)));have HNE:=Lib.hid (fun s (e:nameOf ns x=some s)=>nameOf_ne e);rw [int_head] at hS2;obtain ⟨g,o3,c3,e,y0,hc1,hc2,_,_,hS3⟩:=hS2.cons;rw [int_head] at hS3;obtain ⟨g',o4,c4,e',y1,_⟩:=hS3.cons;injection e with e1 e2 e3;subst e1;subst e3;injection e' with e1 e2 e3;rw [if_neg (by have:(ints ([]:List Nat)).length=0:=rfl;have:(num y::ints ([]:List Nat)).length=1:=rfl;omega)] at e1;injection e1 with e1;injection e1 with ea eb;subst ea;subst eb;have HO1:=Lib.hid (HK.out.each (.slice A1 bs.length c1,bs) (by simp));unfold num at y0 y1;have z0:=far_cell HF.out y0;have z1:=far_cell HF.out y1;have hl1:(ints [y]).length=1:=rfl;have hl0:[x,y].length=2:=rfl;have hll:((([x,y]:List Nat).length:Nat):Int)=2:=rfl;clear hS2 hS3 e2 e3 hc1 hc2 hpl h2 hlf hkd hk4;generalize nameOf ns x=nx at *;cases nx with
          | none =>
            have HG:Hid (none=R):=Lib.hid (by rw [if_pos rfl] at hG;exact hG);clear hG;have HC2:Hid (Calls Tryz.prog 99 #[.pointer (some ⟨q,0,none⟩),.int .i64 (x:Int)] wr fun e w'=>e = .returned (.string ⟨#[]⟩)∧MM.Far [] wr w'):=HNp
            go_wp2_with (first
              | (go_at_call 129;(with_reducible refine HLp.out.mono ?_);rintro e w1 ⟨rfl,rfl⟩)
              | (go_at_call 99;(with_reducible refine HC2.out.mono ?_);rintro e w2 ⟨rfl,hF2⟩;have HF2:=Lib.hid (HF.out.trans hF2 (by simp));clear hF2))
            go_ret3
            refine ⟨?_,HF2.out⟩
            rw [← HG.out];rfl
          | some s =>
            have HG:Hid (dpairsG ns (l.drop (k+1)) (bs++[x]) (vs++[y])=R):=Lib.hid (by rw [if_neg (by simp)] at hG;exact hG);have hb1:¬ s.toList=[]:=toList_ne (fun h=>HNE.out s rfl (size_zero h));have hb2:s.toList.isEmpty=false:=by simpa using hb1
            have HCS:Hid (Calls Tryz.prog 99 #[.pointer (some ⟨q,0,none⟩),.int .i64 (x:Int)] wr fun e w'=>e = .returned (.string s)∧MM.Far [] wr w'):=HNp;have hbW:Hid (w.heap.size≤wr.heap.size):=Lib.hid HF.out.size;have hb3:bs.length≤100000:=by have:=HBL.out;omega
            have hb4:vs.length≤100000:=by have:=HVL.out;omega
            clear hG HNp
            go_wp2_with (first
              | (go_at_call 129;(with_reducible refine HLp.out.mono ?_);rintro e w1 ⟨rfl,rfl⟩)
              | (go_at_call 99;(with_reducible refine HCS.out.mono ?_);rintro e w2 ⟨rfl,hF2⟩;have HF2:=Lib.hid (HF.out.trans hF2 (by simp));have s0:=far_cell HF2.out c0;have s5:=far_cell HF2.out g4;have t0:=far_cell HF2.out y0;have HO2:=Lib.hid (MM.own_far HO1.out hF2 (by simp));have HK2:=Lib.hid (HK.out.far hF2 (by simp));clear hF2)
              | (at_builtin;refine RC6.kin_push HO2.out HF2.out.size hb3 rfl (.tmp 70) (.tmp 81) rfl rfl rfl ?_;intro A3 c3 w3 hO3 hF3 ha3
                 have HK3:=Lib.hid (HK2.out.grow hO3 hF3 ha3);have hF4:MM.Far [] w w3:=HF2.out.trans hF3 (fun x hx hl=>by have h1:=(MM.own_lt HO2.out x (by simpa using hx)).2;omega);have u0:=far_cell hF4 c0;have u5:=far_cell hF4 g4;have t1:=far_cell hF4 y1;have HF4:=Lib.hid hF4;have HO4:=Lib.hid (HK3.out.each (.slice A2 vs.length c2,vs) (by simp));clear hO3 hF3 ha3 hF4)
              | (at_builtin;refine RC6.kin_push HO4.out HF4.out.size hb4 rfl (.tmp 83) (.tmp 94) rfl rfl rfl ?_;intro A5 c5 w5 hO5 hF5' ha5
                 have HK5:=Lib.hid (((HK3.out.perm (List.Perm.swap _ _ _)).grow hO5 hF5' ha5).perm (List.Perm.swap _ _ _));have HF6:=Lib.hid (HF4.out.trans hF5' (S:=[]) (fun x hx hl=>by have h1:=(MM.own_lt HO4.out x (by simpa using hx)).2;omega));clear hO5 hF5' ha5))
            go_roundw
            case rel=>exact ⟨k+1,bs++[x],vs++[y],A3,c3,A5,c5,by omega,by go_num,by simp,by simp,by simp [HBL.out],by simp [HVL.out],Lib.hid ⟨⟨HF6.out,by simpa using HK5.out⟩,HG.out⟩⟩
            case measure=>simp [intOf];omega
        · rw [if_neg h2] at hG;have HG:Hid (none=R):=Lib.hid hG;have h3:¬ ((lp.length:Nat):Int)=2:=by omega
          have h31:(((lp.length:Nat):Int) == 2)=false:=by simpa using h3
          have h32:(((lp.length:Nat):Int) != 2)=true:=by simpa using h3
          clear hG hS2 hkd hlf;by_cases hd:kp=4∧2≤lp.length
          · rw [decide_eq_true hd] at HLp;clear hd h2
            go_wp2_with (first
              | (go_at_call 129;(with_reducible refine HLp.out.mono ?_);rintro e w1 ⟨rfl,rfl⟩))
            go_ret3
            refine ⟨?_,HF.out⟩
            rw [← HG.out];rfl
          · rw [decide_eq_false hd] at HLp;clear hd h2
            go_wp2_with (first
              | (go_at_call 129;(with_reducible refine HLp.out.mono ?_);rintro e w1 ⟨rfl,rfl⟩))
            go_ret3
            refine ⟨?_,HF.out⟩
            rw [← HG.out];rfl
      · obtain rfl:k=m:=by omega
        rw [List.drop_of_length_le (by rw [HM.out];exact Nat.le_refl _)] at hG;simp only [dpairsG] at hG
        have HG:=Lib.hid hG;have hown (v:Value) (l2:List Nat) (hm:(v,l2)∈[(Value.slice A1 bs.length c1,bs),(Value.slice A2 vs.length c2,vs)]):Sl wr (E++Zx q fv) v (ints l2):=Sl.own (HK.out.each (v,l2) hm) (fun x hx hm2=>by
          have h1:=(MM.own_lt (HK.out.each (v,l2) hm) x hx).2;have h2:=HZ.out x hm2;omega)
        have HS1:=Lib.hid (hown (.slice A1 bs.length c1) bs (by simp));have HS2:=Lib.hid (hown (.slice A2 vs.length c2) vs (by simp));clear hown hG;go_wp2;go_ret3
        refine ⟨?_,HF.out⟩
        rw [← HG.out];exact ⟨_,_,rfl,HS1.out,HS2.out⟩
  · rw [if_neg h4];have h8:decide (kd=4∧0≤l.length)=false:=decide_eq_false (fun e=>h4 e.1);rw [h8] at HLI;clear h hSl D h8 h4;unfold ptr num at *;go_enter Tryz.func103,Tryz.ntmps103
    go_wp2_with (first
      | (go_at_call 129;(with_reducible refine HLI.out.mono ?_);rintro e w1 ⟨rfl,rfl⟩))
    go_ret3
    exact ⟨rfl,MM.Far.refl [] w⟩
end
end EW
end Go.Proofs.YtehgmmbdlnginaaGreatDoor
