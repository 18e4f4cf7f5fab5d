/-
  Several texts in one: GenComp,GenRun.
-/
import Derived.Test.YtehgmmbdlnginaaGreatDoorQGenTy
import Derived.Test.YtehgmmbdlnginaaGreatDoorQGenOk
namespace Go.Proofs.YtehgmmbdlnginaaGreatDoor
namespace GP
open KP SC
def aft (s:Gs) (b:Nat) (c:Cd) (u:List Nat):Gs:=⟨app s.bs b c.1++c.2,s.bx++u⟩
section
variable {row:List Rf} {s:Gs} {b:Nat}
theorem aft_nil (h:b < s.bs.length) (u:List Nat):aft s b ([],[]) u=⟨s.bs,s.bx++u⟩:=by unfold aft;rw [app_nil h,List.append_nil]
theorem aft_len (c:Cd) (u:List Nat):(aft s b c u).bs.length=s.bs.length+c.2.length:=by unfold aft;simp [app_len]
theorem aft_lenB (h:b < s.bs.length) (c:Cd) (u:List Nat):lenB (aft s b c u).bs b=lenB s.bs b+c.1.length:=by
  unfold aft;simp only;rw [lenB_left (by rw [app_len];exact h),lenB_app h]
theorem aft_aft (h:b < s.bs.length) (c d:Cd) (u v:List Nat):aft (aft s b c u) b d v=aft s b (c.1++d.1,c.2++d.2) (u++v):=by
  unfold aft;simp only
  rw [app_left (by rw [app_len];exact h),app_app h,List.append_assoc,List.append_assoc]
theorem put_rn (h:b < s.bs.length) (x:Ki) (c:Cd) (u:List Nat):Rn row 1 [.put b x] (aft s b c u) (aft s b (c.1++[x],c.2) u):=by
  have h2:b < (aft s b c u).bs.length:=by rw [aft_len];omega
  refine Rn.one (n:=0) (show okS row (.put b x) _ from h2) ?_
  have e:(stp row (.put b x) (aft s b c u)).2=aft s b (c.1++[x],c.2) u:=by
    have:=aft_aft h c ([x],[]) u [];simp only [List.append_nil] at this
    rw [← this];show (⟨app (aft s b c u).bs b [x],(aft s b c u).bx⟩:Gs)=⟨app (aft s b c u).bs b [x]++[],(aft s b c u).bx++[]⟩
    rw [List.append_nil,List.append_nil]
  rw [e];exact Rn.nil _
theorem leap_rn (h:b < s.bs.length) (op:Int) (c:Cd) (u:List Nat) (j:Nat) (hj:j < u.length):Rn row 2 [.leap b op (s.bx.length+j)] (aft s b c u) (aft s b (c.1++[ki op 0 0 0],c.2) (u.set j (lenB s.bs b+c.1.length))):=by
  have h2:b < (aft s b c u).bs.length:=by rw [aft_len];omega
  refine Rn.one (n:=1) (show okS row (.leap b op (s.bx.length+j)) _ from ⟨h2,by unfold aft;simp only [List.length_append];omega⟩) ?_
  have e:(stp row (.leap b op (s.bx.length+j)) (aft s b c u)).2=aft s b c (u.set j (lenB s.bs b+c.1.length)):=by
    show (⟨(aft s b c u).bs,(aft s b c u).bx.set (s.bx.length+j) (lenB (aft s b c u).bs b)⟩:Gs)=_
    rw [aft_lenB h];unfold aft;simp only
    rw [List.set_append_right _ _ (by omega),Nat.add_sub_cancel_left]
  rw [e];exact put_rn h _ _ _
theorem land_rn (h:b < s.bs.length) (x:Ki) (c d:List Ki) (X:List Kb) (u:List Nat) (j:Nat) (hj:j < u.length) (hu:u.getD j 0=lenB s.bs b+c.length) :
    Rn row 1 [.land b (s.bx.length+j)] (aft s b (c++(x::d),X) u) (aft s b (c++({ x with a:=(lenB s.bs b+c.length+1+d.length:Nat) }::d),X) u):=by
  have h2:b < (aft s b (c++(x::d),X) u).bs.length:=by rw [aft_len];omega
  have hg:(aft s b (c++(x::d),X) u).bx.getD (s.bx.length+j) 0=lenB s.bs b+c.length:=by
    unfold aft;simp only
    rw [List.getD_eq_getElem?_getD,List.getElem?_append_right (by omega),Nat.add_sub_cancel_left,← List.getD_eq_getElem?_getD,hu]
  refine Rn.one (n:=0) (show okS row (.land b (s.bx.length+j)) _ from ⟨h2,by unfold aft;simp only [List.length_append];omega,by rw [hg,aft_lenB h];simp⟩) ?_
  have e:(stp row (.land b (s.bx.length+j)) (aft s b (c++(x::d),X) u)).2=aft s b (c++({ x with a:=(lenB s.bs b+c.length+1+d.length:Nat) }::d),X) u:=by
    show (⟨landB (aft s b (c++(x::d),X) u).bs b _,(aft s b (c++(x::d),X) u).bx⟩:Gs)=_
    rw [hg];unfold aft;simp only
    rw [land_left (by rw [app_len];exact h),land_app h]
  rw [e];exact Rn.nil _
end
def Cm (row:List Rf) (N i:Nat):Prop:=∀ (e:Bool) (b:Nat) (s:Gs),b < s.bs.length→∃ n t,n+1≤12*sz row N i∧Rn row n [stE e b i] s (aft s b (gF row N i e (lenB s.bs b) s.bs.length) t)
section
variable {row:List Rf} {N:Nat} {s:Gs} {b:Nat}
theorem Cm.at {i:Nat} (h:Cm row N i) (hb:b < s.bs.length) (e:Bool) (c:Cd) (u:List Nat) {P NB:Nat} (hP:P=lenB s.bs b+c.1.length) (hN:NB=s.bs.length+c.2.length) :
    ∃ n t,n+1≤12*sz row N i∧Rn row n [stE e b i] (aft s b c u) (aft s b (c.1++(gF row N i e P NB).1,c.2++(gF row N i e P NB).2) (u++t)):=by
  obtain ⟨n,t,h1,h2⟩:=h e b (aft s b c u) (by rw [aft_len];omega);rw [aft_lenB hb,aft_len,aft_aft hb,← hP,← hN] at h2;exact ⟨n,t,h1,h2⟩
theorem push_cm (hb:b < s.bs.length):∀ (l:List Nat),(∀ i∈l,Cm row N i)→∀ (c:Cd) (u:List Nat) (P NB:Nat),P=lenB s.bs b+c.1.length→NB=s.bs.length+c.2.length →
    ∃ n t,n≤12*(l.map (sz row N)).sum∧Rn row n (pushS b l) (aft s b c u) (aft s b (c.1++(gPush (gF row N) l P NB).1,c.2++(gPush (gF row N) l P NB).2) (u++t)):=by
  intro l;induction l with
  | nil=>intro _ c u P NB _ _;exact ⟨0,[],by simp,by simpa [gPush,pushS] using Rn.nil _⟩
  | cons i l ih =>
    intro hC c u P NB hP hN;obtain ⟨n1,t1,h1,r1⟩:=(hC i (List.mem_cons_self ..)).at hb false c u hP hN;generalize hX:gF row N i false P NB=X at *;have r2:=put_rn (row:=row) hb (ki 7 0 0 0) (c.1++X.1,c.2++X.2) (u++t1);obtain ⟨n3,t3,h3,r3⟩:=ih (fun j hj=>hC j (List.mem_cons_of_mem _ hj)) (c.1++X.1++[ki 7 0 0 0],c.2++X.2) (u++t1) (P+X.1.length+1) (NB+X.2.length) (by rw [hP];simp;omega) (by rw [hN];simp;omega);refine ⟨n1+(1+n3),t1++t3,by simp only [List.map_cons,List.sum_cons];omega,?_⟩
    have:=Rn.cons r1 (Rn.cons r2 r3);simp only [gPush,hX]
    simp only [List.append_assoc,List.cons_append,List.nil_append] at this ⊢
    exact this
theorem seq_cm (hb:b < s.bs.length) (e:Bool):∀ (l:List Nat),(∀ i∈l,Cm row N i)→∀ (c:Cd) (u:List Nat) (P NB:Nat),P=lenB s.bs b+c.1.length→NB=s.bs.length+c.2.length →
    ∃ n t,n≤12*(l.map (sz row N)).sum+2∧Rn row n (seqS e b l) (aft s b c u) (aft s b (c.1++(gSeq (gF row N) e l P NB).1,c.2++(gSeq (gF row N) e l P NB).2) (u++t)):=by
  intro l;induction l with
  | nil =>
    intro _ c u P NB _ _;have r1:=put_rn (row:=row) hb (ki 1 0 0 26) c u;cases e with
    | false=>exact ⟨1,[],by simp,by simpa [gSeq,seqS,endS,endK] using r1⟩
    | true =>
      have r2:=put_rn (row:=row) hb (ki 16 0 0 0) (c.1++[ki 1 0 0 26],c.2) u;refine ⟨1+1,[],by simp,?_⟩
      have:=Rn.cons r1 r2;simpa [gSeq,seqS,endS,endK] using this
  | cons i l ih =>
    intro hC c u P NB hP hN;cases l with
    | nil =>
      obtain ⟨n1,t1,h1,r1⟩:=(hC i (List.mem_cons_self ..)).at hb e c u hP hN;exact ⟨n1,t1,by simp;omega,r1⟩
    | cons j l =>
      obtain ⟨n1,t1,h1,r1⟩:=(hC i (List.mem_cons_self ..)).at hb false c u hP hN;generalize hX:gF row N i false P NB=X at *;obtain ⟨n3,t3,h3,r3⟩:=ih (fun k hk=>hC k (List.mem_cons_of_mem _ hk)) (c.1++X.1,c.2++X.2) (u++t1) (P+X.1.length) (NB+X.2.length) (by rw [hP];simp;omega) (by rw [hN];simp;omega);refine ⟨n1+n3,t1++t3,by simp only [List.map_cons,List.sum_cons] at h3 ⊢;omega,?_⟩
      have:=Rn.cons r1 r3;simp only [gSeq,hX]
      simp only [List.append_assoc] at this ⊢
      exact this
end
theorem rn_to {row:List Rf} {n:Nat} {x:List Stp} {s s1 s2:Gs} (h:Rn row n x s s1) (e:s1=s2):Rn row n x s s2:=e ▸ h
section
variable {row:List Rf} {N:Nat} {s:Gs} {b:Nat}
theorem if_cm (hb:b < s.bs.length) {f:Rf} (h0:Cm row N (f.l.getD 0 0)) (h1:Cm row N (f.l.getD 1 0)) (h2:Cm row N (f.l.getD 2 0)) :
    ∃ n t,n≤12*(sz row N (f.l.getD 0 0)+sz row N (f.l.getD 1 0)+sz row N (f.l.getD 2 0))+3∧Rn row n (ifS b s.bx.length f) ⟨s.bs,s.bx++[0,0]⟩ (aft s b (gIf (gF row N) f.l false (lenB s.bs b) s.bs.length) t):=by
  rw [← aft_nil hb];obtain ⟨n1,t1,m1,r1⟩:=h0.at hb false ([],[]) [0,0] (P:=lenB s.bs b) (NB:=s.bs.length) (by simp) (by simp);generalize hX:gF row N (f.l.getD 0 0) false (lenB s.bs b) s.bs.length=X at *;generalize hp1:lenB s.bs b+X.1.length=p1 at *;have q1:Rn row n1 [.val b (f.l.getD 0 0)] (aft s b ([],[]) [0,0]) (aft s b X ([0,0]++t1)):=by simpa [stE] using r1
  have q2:Rn row 2 [.leap b 9 s.bx.length] (aft s b X ([0,0]++t1)) (aft s b (X.1++[ki 9 0 0 0],X.2) ([p1,0]++t1)):=by
    have:=leap_rn (row:=row) hb 9 X ([0,0]++t1) 0 (by simp);rw [hp1] at this;simpa using this
  obtain ⟨n3,t3,m3,r3⟩:=h1.at hb false (X.1++[ki 9 0 0 0],X.2) ([p1,0]++t1) (P:=p1+1) (NB:=s.bs.length+X.2.length) (by simp;omega) (by simp);generalize hY:gF row N (f.l.getD 1 0) false (p1+1) (s.bs.length+X.2.length)=Y at *;generalize hp3:p1+1+Y.1.length=p3 at *;have q3:Rn row n3 [.val b (f.l.getD 1 0)] (aft s b (X.1++[ki 9 0 0 0],X.2) ([p1,0]++t1)) (aft s b (X.1++ki 9 0 0 0::Y.1,X.2++Y.2) ([p1,0]++(t1++t3))):=by simpa [stE] using r3
  have q4:Rn row 2 [.leap b 8 (s.bx.length+1)] (aft s b (X.1++ki 9 0 0 0::Y.1,X.2++Y.2) ([p1,0]++(t1++t3))) (aft s b (X.1++ki 9 0 0 0::(Y.1++[ki 8 0 0 0]),X.2++Y.2) ([p1,p3]++(t1++t3))):=by
    have:=leap_rn (row:=row) hb 8 (X.1++ki 9 0 0 0::Y.1,X.2++Y.2) ([p1,0]++(t1++t3)) 1 (by simp);rw [show lenB s.bs b+(X.1++ki 9 0 0 0::Y.1,X.2++Y.2).1.length=p3 by simp;omega] at this;simpa using this
  generalize hp2:p3+1=p2 at *;have q5:Rn row 1 [.land b s.bx.length] (aft s b (X.1++ki 9 0 0 0::(Y.1++[ki 8 0 0 0]),X.2++Y.2) ([p1,p3]++(t1++t3))) (aft s b (X.1++ki 9 p2 0 0::(Y.1++[ki 8 0 0 0]),X.2++Y.2) ([p1,p3]++(t1++t3))):=by
    have:=land_rn (row:=row) hb (ki 9 0 0 0) X.1 (Y.1++[ki 8 0 0 0]) (X.2++Y.2) ([p1,p3]++(t1++t3)) 0 (by simp) (by simp [hp1]);rw [show lenB s.bs b+X.1.length+1+(Y.1++[ki 8 0 0 0]).length=p2 by simp;omega] at this;exact this
  obtain ⟨n6,t6,m6,r6⟩:=h2.at hb false (X.1++ki 9 p2 0 0::(Y.1++[ki 8 0 0 0]),X.2++Y.2) ([p1,p3]++(t1++t3)) (P:=p2) (NB:=s.bs.length+X.2.length+Y.2.length) (by simp;omega) (by simp;omega);generalize hZ:gF row N (f.l.getD 2 0) false p2 (s.bs.length+X.2.length+Y.2.length)=Z at *;have q6:Rn row n6 [.val b (f.l.getD 2 0)] (aft s b (X.1++ki 9 p2 0 0::(Y.1++[ki 8 0 0 0]),X.2++Y.2) ([p1,p3]++(t1++t3))) (aft s b (X.1++ki 9 p2 0 0::(Y.1++ki 8 0 0 0::Z.1),X.2++(Y.2++Z.2)) ([p1,p3]++(t1++(t3++t6)))):=by simpa [stE] using r6
  have q7:Rn row 1 [.land b (s.bx.length+1)] (aft s b (X.1++ki 9 p2 0 0::(Y.1++ki 8 0 0 0::Z.1),X.2++(Y.2++Z.2)) ([p1,p3]++(t1++(t3++t6)))) (aft s b (X.1++ki 9 p2 0 0::(Y.1++ki 8 (p2+Z.1.length:Nat) 0 0::Z.1),X.2++(Y.2++Z.2)) ([p1,p3]++(t1++(t3++t6)))):=by
    have:=land_rn (row:=row) hb (ki 8 0 0 0) (X.1++ki 9 p2 0 0::Y.1) Z.1 (X.2++(Y.2++Z.2)) ([p1,p3]++(t1++(t3++t6))) 1 (by simp) (by simp;omega);rw [show lenB s.bs b+(X.1++ki 9 p2 0 0::Y.1).length+1+Z.1.length=p2+Z.1.length by simp;omega] at this;simp only [List.append_assoc,List.cons_append] at this ⊢
    exact this
  refine ⟨n1+(2+(n3+(2+(1+(n6+1))))),[p1,p3]++(t1++(t3++t6)),by omega,?_⟩
  unfold ifS;refine Rn.cons q1 (Rn.cons q2 (Rn.cons q3 (Rn.cons q4 (Rn.cons q5 (Rn.cons q6 (rn_to q7 ?_))))))
  simp only [gIf,hX,Bool.false_eq_true,if_false,hp1,hY,hp3,hp2,hZ]
  rfl
theorem ife_cm (hb:b < s.bs.length) {f:Rf} (h0:Cm row N (f.l.getD 0 0)) (h1:Cm row N (f.l.getD 1 0)) (h2:Cm row N (f.l.getD 2 0)) :
    ∃ n t,n≤12*(sz row N (f.l.getD 0 0)+sz row N (f.l.getD 1 0)+sz row N (f.l.getD 2 0))+0∧Rn row n (ifE b s.bx.length f) ⟨s.bs,s.bx++[0]⟩ (aft s b (gIf (gF row N) f.l true (lenB s.bs b) s.bs.length) t):=by
  rw [← aft_nil hb];obtain ⟨n1,t1,m1,r1⟩:=h0.at hb false ([],[]) [0] (P:=lenB s.bs b) (NB:=s.bs.length) (by simp) (by simp);generalize hX:gF row N (f.l.getD 0 0) false (lenB s.bs b) s.bs.length=X at *;generalize hp1:lenB s.bs b+X.1.length=p1 at *;have q1:Rn row n1 [.val b (f.l.getD 0 0)] (aft s b ([],[]) [0]) (aft s b X ([0]++t1)):=by simpa [stE] using r1
  have q2:Rn row 2 [.leap b 9 s.bx.length] (aft s b X ([0]++t1)) (aft s b (X.1++[ki 9 0 0 0],X.2) ([p1]++t1)):=by
    have:=leap_rn (row:=row) hb 9 X ([0]++t1) 0 (by simp);rw [hp1] at this;simpa using this
  obtain ⟨n3,t3,m3,r3⟩:=h1.at hb true (X.1++[ki 9 0 0 0],X.2) ([p1]++t1) (P:=p1+1) (NB:=s.bs.length+X.2.length) (by simp;omega) (by simp);generalize hY:gF row N (f.l.getD 1 0) true (p1+1) (s.bs.length+X.2.length)=Y at *;generalize hp2:p1+1+Y.1.length=p2 at *;have q3:Rn row n3 [.last b (f.l.getD 1 0)] (aft s b (X.1++[ki 9 0 0 0],X.2) ([p1]++t1)) (aft s b (X.1++ki 9 0 0 0::Y.1,X.2++Y.2) ([p1]++(t1++t3))):=by simpa [stE] using r3
  have q5:Rn row 1 [.land b s.bx.length] (aft s b (X.1++ki 9 0 0 0::Y.1,X.2++Y.2) ([p1]++(t1++t3))) (aft s b (X.1++ki 9 p2 0 0::Y.1,X.2++Y.2) ([p1]++(t1++t3))):=by
    have:=land_rn (row:=row) hb (ki 9 0 0 0) X.1 Y.1 (X.2++Y.2) ([p1]++(t1++t3)) 0 (by simp) (by simp [hp1]);rw [show lenB s.bs b+X.1.length+1+Y.1.length=p2 by omega] at this;exact this
  obtain ⟨n6,t6,m6,r6⟩:=h2.at hb true (X.1++ki 9 p2 0 0::Y.1,X.2++Y.2) ([p1]++(t1++t3)) (P:=p2) (NB:=s.bs.length+X.2.length+Y.2.length) (by simp;omega) (by simp;omega);generalize hZ:gF row N (f.l.getD 2 0) true p2 (s.bs.length+X.2.length+Y.2.length)=Z at *;have q6:Rn row n6 [.last b (f.l.getD 2 0)] (aft s b (X.1++ki 9 p2 0 0::Y.1,X.2++Y.2) ([p1]++(t1++t3))) (aft s b (X.1++ki 9 p2 0 0::(Y.1++Z.1),X.2++(Y.2++Z.2)) ([p1]++(t1++(t3++t6)))):=by simpa [stE] using r6
  refine ⟨n1+(2+(n3+(1+n6))),[p1]++(t1++(t3++t6)),by omega,?_⟩
  unfold ifE;refine Rn.cons q1 (Rn.cons q2 (Rn.cons q3 (Rn.cons q5 (rn_to q6 ?_))))
  simp only [gIf,hX,if_true,hp1,hY,hp2,hZ,Nat.add_zero]
  rfl
end
end GP
end Go.Proofs.YtehgmmbdlnginaaGreatDoor
namespace Go.Proofs.YtehgmmbdlnginaaGreatDoor
namespace GP
open KP SC
section
variable {row:List Rf} {N:Nat}
theorem getD_mem {l:List Nat} {k:Nat} (h:k < l.length):l.getD k 0∈l:=by
  rw [List.getD_eq_getElem?_getD,List.getElem?_eq_getElem h];exact List.getElem_mem h
theorem sum_mem {g:Nat→Nat} {l:List Nat} {i:Nat} (h:i∈l):g i≤(l.map g).sum:=by
  induction l with
  | nil=>cases h
  | cons a l ih =>
    rw [List.map_cons,List.sum_cons]
    rcases List.mem_cons.1 h with rfl | h
    · omega
    · have:=ih h;omega
theorem sum_drop {g:Nat→Nat} {l:List Nat} (h:1≤l.length):g (l.getD 0 0)+((l.drop 1).map g).sum=(l.map g).sum:=by
  cases l with
  | nil=>simp at h
  | cons a l=>simp
theorem sum_three {g:Nat→Nat} {l:List Nat} (h:l.length=3):g (l.getD 0 0)+g (l.getD 1 0)+g (l.getD 2 0)=(l.map g).sum:=by
  obtain ⟨a,b,c,rfl⟩:∃ a b c,l=[a,b,c]:=by
    match l,h with
    | [a,b,c],_=>exact ⟨a,b,c,rfl⟩
  simp;omega
variable {s:Gs} {b:Nat}
theorem call_cm (hb:b < s.bs.length) {f:Rf} (hl:1≤f.l.length) (hC:∀ i∈f.l,Cm row N i) (op:Int) :
    ∃ n t,n≤12*(f.l.map (sz row N)).sum+1∧Rn row n (callS b f op) s (aft s b ((gPush (gF row N) (f.l.drop 1) (lenB s.bs b) s.bs.length).1++((gF row N (f.l.getD 0 0) false (lenB s.bs b+(gPush (gF row N) (f.l.drop 1) (lenB s.bs b) s.bs.length).1.length) (s.bs.length+(gPush (gF row N) (f.l.drop 1) (lenB s.bs b) s.bs.length).2.length)).1++[ki op (f.l.length - 1:Nat) 0 0]),
      (gPush (gF row N) (f.l.drop 1) (lenB s.bs b) s.bs.length).2++(gF row N (f.l.getD 0 0) false (lenB s.bs b+(gPush (gF row N) (f.l.drop 1) (lenB s.bs b) s.bs.length).1.length) (s.bs.length+(gPush (gF row N) (f.l.drop 1) (lenB s.bs b) s.bs.length).2.length)).2) t):=by
  obtain ⟨n1,t1,m1,r1⟩:=push_cm hb (f.l.drop 1) (fun i hi=>hC i (List.mem_of_mem_drop hi)) ([],[]) [] (lenB s.bs b) s.bs.length (by simp) (by simp);rw [aft_nil hb,List.append_nil] at r1;simp only [List.nil_append] at r1
  generalize gPush (gF row N) (f.l.drop 1) (lenB s.bs b) s.bs.length=X at *;obtain ⟨n2,t2,m2,r2⟩:=(hC _ (getD_mem hl)).at hb false X t1 (P:=lenB s.bs b+X.1.length) (NB:=s.bs.length+X.2.length) rfl rfl;generalize gF row N (f.l.getD 0 0) false (lenB s.bs b+X.1.length) (s.bs.length+X.2.length)=Y at *;have r3:=put_rn (row:=row) hb (ki op (f.l.length - 1:Nat) 0 0) (X.1++Y.1,X.2++Y.2) (t1++t2);have hs:=sum_drop (g:=sz row N) hl;refine ⟨n1+(n2+1),t1++t2,by omega,?_⟩
  unfold callS;have:=Rn.app r1 (Rn.cons r2 r3);simp only [List.append_assoc] at this ⊢
  exact this
theorem cc_cm (hb:b < s.bs.length) {f:Rf} (h0:Cm row N (f.l.getD 0 0)) (op:Int) :
    ∃ n t,n≤12*sz row N (f.l.getD 0 0)∧Rn row n (ccS b f op) s (aft s b ((gF row N (f.l.getD 0 0) false (lenB s.bs b) s.bs.length).1++[ki op 0 0 0],(gF row N (f.l.getD 0 0) false (lenB s.bs b) s.bs.length).2) t):=by
  obtain ⟨n1,t1,m1,r1⟩:=h0 false b s hb;have r2:=put_rn (row:=row) hb (ki op 0 0 0) (gF row N (f.l.getD 0 0) false (lenB s.bs b) s.bs.length) t1;exact ⟨n1+1,t1,by omega,Rn.cons r1 r2⟩
theorem val_cm {i:Nat} (hi:i < row.length) (hF:Fo (rfAt row i)) (hC:∀ p∈(rfAt row i).l,Cm row N p) (hb:b < s.bs.length) :
    ∃ n t,n≤12*((rfAt row i).l.map (sz row N)).sum+6∧Rn row n [.val b i] s (aft s b (gForm (gF row N) (rfAt row i) false (lenB s.bs b) s.bs.length) t):=by
  have hok:okS row (.val b i) s:=⟨hb,hi,hF⟩
  have hst:stp row (.val b i) s=valS (rfAt row i) b s:=rfl;generalize hf:rfAt row i=f at *;have one:∀ {n:Nat} {s':Gs},Rn row n (valS f b s).1 (valS f b s).2 s'→Rn row (n+1) [.val b i] s s':=fun {n s'} h=>by
    refine Rn.one hok ?_
    rw [hst];exact h
  have a0:∀ x:Ki,aft s b ([]++[x],[]) []=aft s b ([x],[]) []:=fun x=>rfl
  have s0:aft s b ([],[]) []=s:=by rw [aft_nil hb,List.append_nil]
  unfold valS at one;unfold gForm;by_cases k5:f.kind=5
  · rw [if_pos k5] at one ⊢;have hl:=hF.k5 k5;obtain ⟨n,t,h1,h2⟩:=if_cm (N:=N) hb (f:=f) (hC _ (getD_mem (by omega))) (hC _ (getD_mem (by omega))) (hC _ (getD_mem (by omega)));have hs:=sum_three (g:=sz row N) hl;exact ⟨n+1,t,by omega,one h2⟩
  rw [if_neg k5] at one ⊢;by_cases k6:f.kind=6
  · rw [if_pos k6] at one ⊢;have hl:=hF.k1 (.inl k6);have r1:Rn row 1 [.put b (ki 10 s.bs.length 0 0)] ⟨s.bs++[⟨f.n,[]⟩],s.bx⟩ ⟨app s.bs b [ki 10 s.bs.length 0 0]++[⟨f.n,[]⟩],s.bx⟩:=by
      refine Rn.one (n:=0) (show okS row (.put b _) _ from by show b < (s.bs++[(⟨f.n,[]⟩:Kb)]).length;simp;omega) ?_
      have e:(stp row (.put b (ki 10 s.bs.length 0 0)) ⟨s.bs++[⟨f.n,[]⟩],s.bx⟩).2=⟨app s.bs b [ki 10 s.bs.length 0 0]++[⟨f.n,[]⟩],s.bx⟩:=by
        show (⟨app (s.bs++[⟨f.n,[]⟩]) b _,s.bx⟩:Gs)=_
        rw [app_left hb]
      rw [e];exact Rn.nil _
    generalize hs2:(⟨app s.bs b [ki 10 s.bs.length 0 0]++[⟨f.n,[]⟩],s.bx⟩:Gs)=s2 at *;have hlen:(app s.bs b [ki 10 s.bs.length 0 0]).length=s.bs.length:=app_len ..;have hl2:s2.bs.length=s.bs.length+1:=by rw [← hs2];simp [hlen]
    have hz:lenB s2.bs s.bs.length=0:=by
      rw [← hs2];show lenB (app s.bs b [ki 10 s.bs.length 0 0]++[⟨f.n,[]⟩]) s.bs.length=0
      unfold lenB blk;rw [List.getD_eq_getElem?_getD,List.getElem?_append_right (by omega),hlen,Nat.sub_self];rfl
    obtain ⟨n,t,m2,r2⟩:=hC _ (getD_mem (l:=f.l) (k:=0) (by omega)) true s.bs.length s2 (by omega);rw [hz,hl2] at r2;have hs:=sum_mem (g:=sz row N) (getD_mem (l:=f.l) (k:=0) (by omega));refine ⟨1+n+1,t,by omega,one (Rn.cons r1 (rn_to r2 ?_))⟩
    generalize gF row N (f.l.getD 0 0) true 0 (s.bs.length+1)=B;rw [← hs2];unfold aft endK;simp only [Bool.false_eq_true,if_false]
    have:=app_end (app s.bs b [ki 10 s.bs.length 0 0]) f.n B.1;rw [hlen] at this;rw [this,List.append_assoc];rfl
  rw [if_neg k6] at one ⊢;by_cases k79:f.kind=7∨f.kind=9
  · rw [if_pos k79] at one ⊢;have hl:=hF.k1 (by omega);obtain ⟨n,t,m1,r1⟩:=hC _ (getD_mem (l:=f.l) (k:=0) (by omega)) false b s hb;have r2:=put_rn (row:=row) hb (setK f) (gF row N (f.l.getD 0 0) false (lenB s.bs b) s.bs.length) t;have hs:=sum_mem (g:=sz row N) (getD_mem (l:=f.l) (k:=0) (by omega));exact ⟨n+1+1,t,by omega,one (Rn.cons r1 r2)⟩
  rw [if_neg k79] at one ⊢;by_cases k8:f.kind=8
  · rw [if_pos k8] at one ⊢;obtain ⟨n,t,m1,r1⟩:=seq_cm hb false f.l hC ([],[]) [] (lenB s.bs b) s.bs.length (by simp) (by simp);rw [s0] at r1;simp only [List.nil_append] at r1
    exact ⟨n+1,t,by omega,one r1⟩
  rw [if_neg k8] at one ⊢;by_cases k10:f.kind=10
  · rw [if_pos k10] at one ⊢;obtain ⟨n,t,m1,r1⟩:=call_cm hb (hF.k10 k10) hC 12;exact ⟨n+1,t,by omega,one r1⟩
  rw [if_neg k10] at one ⊢;by_cases k12:f.kind=12
  · rw [if_pos k12] at one ⊢;unfold primS at one;by_cases k18:f.n=18
    · rw [if_pos k18] at one ⊢;have hl:=hF.k18 k12 k18;obtain ⟨n,t,m1,r1⟩:=cc_cm hb (f:=f) (hC _ (getD_mem (l:=f.l) (k:=0) (by omega))) 14;have hs:=sum_mem (g:=sz row N) (getD_mem (l:=f.l) (k:=0) (by omega));exact ⟨n+1,t,by omega,one r1⟩
    · rw [if_neg k18] at one ⊢;obtain ⟨n1,t1,m1,r1⟩:=push_cm hb f.l hC ([],[]) [] (lenB s.bs b) s.bs.length (by simp) (by simp);rw [s0] at r1;simp only [List.nil_append] at r1
      have r2:=put_rn (row:=row) hb (ki 11 f.n f.l.length 0) (gPush (gF row N) f.l (lenB s.bs b) s.bs.length) t1;exact ⟨n1+1+1,t1,by omega,one (Rn.app r1 r2)⟩
  rw [if_neg k12] at one ⊢;have r1:=put_rn (row:=row) hb (leafK f) ([],[]) [];rw [s0] at r1;exact ⟨1+1,[],by omega,one r1⟩
theorem form_cm {i:Nat} (hi:i < row.length) (hF:Fo (rfAt row i)) (hC:∀ p∈(rfAt row i).l,Cm row N p):Cm row (N+1) i:=by
  intro e b s hb;show ∃ n t,n+1≤12*(1+((rfAt row i).l.map (sz row N)).sum)∧Rn row n [stE e b i] s (aft s b (gForm (gF row N) (rfAt row i) e (lenB s.bs b) s.bs.length) t)
  obtain ⟨nv,tv,mv,rv⟩:=val_cm (s:=s) hi hF hC hb;cases e with
  | false=>exact ⟨nv,tv,by omega,rv⟩
  | true =>
    have hok:okS row (.last b i) s:=⟨hb,hi,hF⟩
    have hst:stp row (.last b i) s=lastS (rfAt row i) b i s:=rfl;have r2:=put_rn (row:=row) hb (ki 16 0 0 0) (gForm (gF row N) (rfAt row i) false (lenB s.bs b) s.bs.length) tv;have rvr:=Rn.cons rv r2;show ∃ n t,_∧Rn row n [.last b i] s _
    generalize hf:rfAt row i=f at *;have one:∀ {n:Nat} {s':Gs},Rn row n (lastS f b i s).1 (lastS f b i s).2 s'→Rn row (n+1) [.last b i] s s':=fun {n s'} h=>by
      refine Rn.one hok ?_
      rw [hst];exact h
    have s0:aft s b ([],[]) []=s:=by rw [aft_nil hb,List.append_nil]
    unfold lastS at one;by_cases k5:f.kind=5
    · rw [if_pos k5] at one;unfold gForm;rw [if_pos k5];have hl:=hF.k5 k5;obtain ⟨n,t,h1,h2⟩:=ife_cm (N:=N) hb (f:=f) (hC _ (getD_mem (by omega))) (hC _ (getD_mem (by omega))) (hC _ (getD_mem (by omega)));have hs:=sum_three (g:=sz row N) hl;exact ⟨n+1,t,by omega,one h2⟩
    rw [if_neg k5] at one;by_cases k8:f.kind=8
    · rw [if_pos k8] at one;obtain ⟨n,t,m1,r1⟩:=seq_cm hb true f.l hC ([],[]) [] (lenB s.bs b) s.bs.length (by simp) (by simp);rw [s0] at r1;simp only [List.nil_append] at r1
      refine ⟨n+1,t,by omega,?_⟩
      unfold gForm;rw [if_neg k5,if_neg (by omega),if_neg (by omega),if_pos k8];exact one r1
    rw [if_neg k8] at one;by_cases k10:f.kind=10
    · rw [if_pos k10] at one;obtain ⟨n,t,m1,r1⟩:=call_cm hb (hF.k10 k10) hC 13;refine ⟨n+1,t,by omega,?_⟩
      unfold gForm;rw [if_neg k5,if_neg (by omega),if_neg (by omega),if_neg k8,if_pos k10];exact one r1
    rw [if_neg k10] at one;by_cases k18:f.kind=12∧f.n=18
    · rw [if_pos k18] at one;have hl:=hF.k18 k18.1 k18.2;obtain ⟨n,t,m1,r1⟩:=cc_cm hb (f:=f) (hC _ (getD_mem (l:=f.l) (k:=0) (by omega))) 15;have hs:=sum_mem (g:=sz row N) (getD_mem (l:=f.l) (k:=0) (by omega));refine ⟨n+1,t,by omega,?_⟩
      unfold gForm;rw [if_neg k5,if_neg (by omega),if_neg (by omega),if_neg k8,if_neg k10,if_pos k18.1,if_pos k18.2];exact one r1
    rw [if_neg k18] at one;refine ⟨nv+1+1,tv,by omega,rn_to (one rvr) ?_⟩
    unfold gForm;rw [if_neg k5,if_neg k5];by_cases k6:f.kind=6
    · rw [if_pos k6,if_pos k6];simp [endK]
    rw [if_neg k6,if_neg k6];by_cases k79:f.kind=7∨f.kind=9
    · rw [if_pos k79,if_pos k79];simp [endK]
    rw [if_neg k79,if_neg k79,if_neg k8,if_neg k8,if_neg k10,if_neg k10];by_cases k12:f.kind=12
    · rw [if_pos k12,if_pos k12,if_neg (fun c=>k18 ⟨k12,c⟩),if_neg (fun c=>k18 ⟨k12,c⟩)];simp [endK]
    rw [if_neg k12,if_neg k12];simp [endK]
theorem fo_of {N':List ByteArray} {R R':Rws} {f:Rf} (h:Shp N' R { f with l:=[] } R' f.l.length):Fo f:=by
  have hk:=h.kinds;simp only at hk
  refine ⟨fun h=>by omega,fun h=>by omega,fun h=>by omega,fun h h2=>?_⟩
  rcases hk with h | h | h | h | h | h | h | h | h | h
  · omega
  · omega
  · omega
  · omega
  · omega
  · omega
  · rw [h.2.2.2,h2];rfl
  · omega
  · omega
  · omega
theorem all_cm (hr:Rok row):∀ n i,i < n→i < row.length→Cm row n i:=by
  intro n;induction n with
  | zero=>intro i hi;omega
  | succ n ih =>
    intro i hi hl;obtain ⟨⟨N',R,R',hs⟩,hp⟩:=hr i hl;exact form_cm hl (fo_of hs) (fun p hp'=>ih p (by have:=hp p hp';omega) (by have:=hp p hp';omega))
theorem gen_go (hr:Rok row) {tops:List Nat} (ht:∀ t∈tops,t < row.length):∃ n bx,n≤12*(tops.map (sz row row.length)).sum+2∧Go row n (seqS true 0 tops) ⟨[⟨0,[]⟩],[]⟩ ⟨genB row tops,bx⟩:=by
  have hb:0 < (⟨[⟨0,[]⟩],[]⟩:Gs).bs.length:=by decide
  obtain ⟨n,t,h1,h2⟩:=seq_cm (s:=⟨[⟨0,[]⟩],[]⟩) hb true tops (fun i hi=>all_cm hr row.length i (ht i hi) (ht i hi)) ([],[]) [] 0 1 rfl rfl;rw [aft_nil hb,List.append_nil] at h2;simp only [List.nil_append] at h2
  refine ⟨n,t,h1,?_⟩
  have:=h2 0 [] _ (Go.done _);rw [List.append_nil,Nat.add_zero] at this;have e:aft ⟨[⟨0,[]⟩],[]⟩ 0 (gSeq (gF row row.length) true tops 0 1) t=⟨genB row tops,t⟩:=rfl;rw [e] at this;exact this
end
end GP
end Go.Proofs.YtehgmmbdlnginaaGreatDoor
