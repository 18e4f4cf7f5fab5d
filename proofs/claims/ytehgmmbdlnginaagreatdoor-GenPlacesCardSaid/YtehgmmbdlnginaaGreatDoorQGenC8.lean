/-
  Several texts in one: GenC6,GenC7,GenC8.
-/
import Derived.Test.YtehgmmbdlnginaaGreatDoorQGenC5
import Derived.Deep.CutRange
namespace Go.Proofs.YtehgmmbdlnginaaGreatDoor
open Go.RowKit
set_option linter.unusedVariables false
namespace GW
open LX SX RW6 EX KP SC GP
open EW (Sl Bx)
theorem steps_law {ops:Array Oper} {o:Oper} {a:Act} {w:World} {K:Act→World→Prop} {Q:Exit→Act→World→Prop} {E:Prop} {base:Nat} {v:Value} {xs:List Value} {n:Nat} (news:List Value) (m:Nat)
    (hO:w.ownsRow base 141 1 v n xs) (hb:base≤w.heap.size) (hn:n≤100000000000) (hm:news.length=m) (hm2:m≤1000000) (h1:∀ u∈news,u.oneCell'=true) (hgd:o.guard=none) (s x:Operand)
    (ho:o.op = .call { callee:=.builtin .append,args:=#[s,x],argTypes:=#[101,101] })
    (hs:a.eval s=v) (hx:a.eval x = .slice (some ⟨w.heap.size,0,none⟩) m m)
    (h:∀ A c w',w'.ownsRow base 141 1 (.slice A (n+m) c) (n+m) (xs++news)→MM.Far v.ownBlock.toList w w'→K (a.put o.dst (.slice A (n+m) c)) w') :
    if Region.wanted o (yielded ops a.tmps)=true then Oper.wp Tryz.prog o a (w.alloc (.cells news.toArray 141)) K Q else E:=by
  have hF:MM.Far [] w (w.alloc (.cells news.toArray 141)):=(MM.Far.refl [] w).alloc _;have hO2:(w.alloc (.cells news.toArray 141)).ownsRow base 141 1 v n xs:=hO.alloc _;refine MO.step_append hgd s x 101 ho base 141 .nilFunc 1 8 steps_slice step_info rfl (by omega) v n xs hs hO2 (some ⟨w.heap.size,0,none⟩) m m news hx (by omega) (fun h=>by cases h) [] ?_ h1 ?_ ?_ (by have:=hF.size;omega) ?_
  · exact MM.Src.row (MM.Row.new w 141 news) (by simp) _ (fun j u hu=>hu)
  · simp only [maxLen];omega
  · omega
  · intro v' w' hv hg hat;obtain ⟨A,c,rfl,_⟩:=MO.form hv;exact h A c w' hv (far_app0 hg)
section
variable {base:Nat} {w:World} {q:Nat} {fv bv:Value} {ks:List Value} {ad:List Nat} {s:Gs}
set_option maxHeartbeats 4000000 in
set_option maxRecDepth 20000 in
theorem lastChoice_any (hM:Mg base w q fv bv ks ad s) (hb:base≤w.heap.size) (b:Nat) {f:Rf} {A:Option Addr} {c:Nat} {Y:List Nat} (hl:f.l.length=3) (hS:Sl w Y (.slice A 3 c) (ints f.l)) :
    Calls Tryz.prog 119 #[ptr q,num b,fV f (.slice A 3 c)] w (CallQ base w q fv bv ks ad (ifE b s.bx.length f,⟨s.bs,s.bx++[0]⟩)):=by
  obtain ⟨kind,at_,n,a,st,ww,l⟩:=f;simp only at hl hS
  obtain ⟨x0,x1,x2,rfl⟩:∃ a b c,l=[a,b,c]:=by
    match l,hl with
    | [a,b,c],_=>exact ⟨a,b,c,rfl⟩
  obtain ⟨g,o,rfl,hg1,hg2,d0⟩:=sl_at (k:=0) hS rfl;obtain ⟨g',o',e,_,_,d1⟩:=sl_at (k:=1) hS rfl;injection e with e;injection e with ea eb;subst ea;subst eb;obtain ⟨g',o',e,_,_,d2⟩:=sl_at (k:=2) hS rfl;injection e with e;injection e with ea eb;subst ea;subst eb;obtain ⟨W1,hW1⟩:∃ W,w.alloc (.cells (fC ⟨kind,at_,n,a,st,ww,[x0,x1,x2]⟩ (.slice (some ⟨g,o,none⟩) 3 c)).toArray 39)=W:=⟨_,rfl⟩
  obtain ⟨W2,hW2⟩:∃ W,W1.alloc (.cells #[num 0] 3)=W:=⟨_,rfl⟩
  have F1:MM.Far [] w W1:=by rw [← hW1];exact (MM.Far.refl [] w).alloc _
  have F2:MM.Far [] W1 W2:=by rw [← hW2];exact (MM.Far.refl [] W1).alloc _
  have s1:W1.heap.size=w.heap.size+1:=by rw [← hW1];exact sz_alloc _ _
  have r0:MM.Row W1 w.heap.size 39 (fC ⟨kind,at_,n,a,st,ww,[x0,x1,x2]⟩ (.slice (some ⟨g,o,none⟩) 3 c)):=by rw [← hW1];exact MM.Row.new w _ _
  have r1:MM.Row W2 (w.heap.size+1) 3 [num 0]:=by rw [← hW2];exact row_new _ [num 0] s1
  have F02:=F1.trans F2 (by simp);have HM:=Lib.hid ((hM.far F02 (by simp)).note (a:=w.heap.size+1) r1 (by omega) (fun hm=>by have:=(hM.abase _ hm).2;omega));have HF:=Lib.hid F02;have hal:=hM.alen;have HA1:Hid ((ad++[w.heap.size+1])[s.bx.length]? = some (w.heap.size+1)):=Lib.hid (by rw [← hal,List.getElem?_append_right (Nat.le_refl _),Nat.sub_self];rfl);obtain ⟨ad2,had2⟩:∃ ad2,ad++[w.heap.size+1]=ad2:=⟨_,rfl⟩
  rw [had2] at HM HA1;have HA:=Lib.hid (Acc.nil (w:=W2) q ad2 (MM.Far.refl [] W2) (fun b hb=>(HM.out.z b hb).1));have HAD:=Lib.hid had2;have c7:W2.cell? ⟨w.heap.size,7,none⟩=some (.slice (some ⟨g,o,none⟩) 3 c):=(r0.far F2 (by simp)).at (i:=7) rfl;have d0':=far_cell F02 d0 hg2;have d1':=far_cell F02 d1 hg2;have d2':=far_cell F02 d2 hg2;clear d0 d1 d2 hM r0 r1 F1 F2 F02 hS hg1 hg2 hl hal had2;subst hW1;subst hW2;rw [Nat.add_zero] at d0';go_enter Tryz.func119,Tryz.ntmps119
  go_wp2;generalize (w.alloc (.cells (fC ⟨kind,at_,n,a,st,ww,[x0,x1,x2]⟩ (.slice (some ⟨g,o,none⟩) 3 c)).toArray 39)).alloc (.cells #[num 0] 3)=W at *
  go_region_held3 (fun w'=>w'.cell? ⟨w.heap.size,7,none⟩=some (.slice (some ⟨g,o,none⟩) 3 c)∧w'.cell? ⟨g,o,none⟩=some (num x0)∧w'.cell? ⟨g,o+1,none⟩=some (num x1)∧w'.cell? ⟨g,o+2,none⟩=some (num x2)) (first | (with_reducible assumption) | go_keep) (first
    | (go_at_call 117;(first | (with_reducible refine (value_any _ q ad2 HA.out.z b _).mono ?_) | (have HA:=Lib.hid HA.out.dr;(with_reducible refine (value_any _ q ad2 HA.out.z b _).mono ?_)));rintro e w1 ⟨v,rfl,hI,hF⟩;obtain ⟨vf,vl,rfl⟩:=hI.func;have hk:=keep4 hF (by assumption);have HA:=Lib.hid (HA.out.step hI hF);clear hI hF)
    | (go_at_call 76;(with_reducible refine (last_any _ q ad2 HA.out.z b _).mono ?_);rintro e w1 ⟨v,rfl,hI,hF⟩;obtain ⟨vf,vl,rfl⟩:=hI.func;have hk:=keep4 hF (by assumption);have HA:=Lib.hid (HA.out.step hI hF);clear hI hF)
    | (go_at_call 141;(with_reducible refine (leap_any _ q ad2 HA.out.z b 9 _ _ HA1.out).mono ?_);rintro e w1 ⟨v,rfl,hI,hF⟩;obtain ⟨vf,vl,rfl⟩:=hI.func;have hk:=keep4 hF (by assumption);have HA:=Lib.hid (HA.out.step hI hF);clear hI hF)
    | (go_at_call 142;(with_reducible refine (land_any _ q ad2 HA.out.z b _ _ HA1.out).mono ?_);rintro e w1 ⟨v,rfl,hI,hF⟩;obtain ⟨vf,vl,rfl⟩:=hI.func;have hk:=keep4 hF (by assumption);have HA:=Lib.hid (HA.out.step hI hF);clear hI hF))
  go_wp2;go_ret
  have HAD2:=HAD.out;subst HAD2;exact callQ_of HM.out HF.out (HA.out.row rfl rfl (by omega)) (fun a ha=>by simp at ha;omega)
end
section
variable (w:World) {Z:List Nat} (q:Nat) (ad:List Nat) (hz:∀ b∈Z,b < w.heap.size)
include hz
set_option maxHeartbeats 4000000 in
set_option maxRecDepth 20000 in
theorem callCC_any (b:Nat) (op:Int) {f:Rf} {A:Option Addr} {c:Nat} {Y:List Nat} (hl:f.l.length=1) (hS:Sl w Y (.slice A 1 c) (ints f.l)) :
    Calls Tryz.prog 121 #[ptr q,num b,fV f (.slice A 1 c),.int .u8 op] w (RowQ w Z q ad (ccS b f op)):=by
  obtain ⟨kind,at_,n,a,st,ww,l⟩:=f;simp only at hl hS
  obtain ⟨x0,rfl⟩:∃ a,l=[a]:=List.length_eq_one_iff.1 hl;obtain ⟨g,o,rfl,hg1,hg2,d0⟩:=sl_at (k:=0) hS rfl;obtain ⟨W1,hW1⟩:∃ W,w.alloc (.cells (fC ⟨kind,at_,n,a,st,ww,[x0]⟩ (.slice (some ⟨g,o,none⟩) 1 c)).toArray 39)=W:=⟨_,rfl⟩
  have F1:MM.Far [] w W1:=by rw [← hW1];exact (MM.Far.refl [] w).alloc _
  have r0:MM.Row W1 w.heap.size 39 (fC ⟨kind,at_,n,a,st,ww,[x0]⟩ (.slice (some ⟨g,o,none⟩) 1 c)):=by rw [← hW1];exact MM.Row.new w _ _
  have HA:=Lib.hid (Acc.nil (w:=W1) q ad F1 hz);have c7:W1.cell? ⟨w.heap.size,7,none⟩=some (.slice (some ⟨g,o,none⟩) 1 c):=r0.at (i:=7) rfl;have d0':=far_cell F1 d0 hg2;clear d0 r0 F1 hS hg1 hg2 hl hz;subst hW1;rw [Nat.add_zero] at d0';go_enter Tryz.func121,Tryz.ntmps121
  go_wp2_with (first
    | (go_at_call 117;refine (value_any _ q ad HA.out.z b _).mono ?_;rintro e w1 ⟨v,rfl,hI,hF⟩;obtain ⟨vf,vl,rfl⟩:=hI.func;have HA:=Lib.hid (HA.out.step hI hF);clear hI hF)
    | (go_at_call 116;refine (put_any _ q ad HA.out.z b (ki op 0 0 0)).mono ?_;rintro e w1 ⟨v,rfl,hI,hF⟩;obtain ⟨vf,vl,rfl⟩:=hI.func;have HA:=Lib.hid (HA.out.step hI hF);clear hI hF))
  go_ret
  exact HA.out.row rfl rfl (by omega)
end
end GW
end Go.Proofs.YtehgmmbdlnginaaGreatDoor
namespace Go.Proofs.YtehgmmbdlnginaaGreatDoor
open Go.RowKit
set_option linter.unusedVariables false
namespace GW
open LX SX RW6 EX KP SC GP
open EW (Sl Bx)
theorem rowQ_of {w w':World} {Z:List Nat} {q:Nat} {ad:List Nat} {v:Value} {xs:List Stp} (h:StI w w' Z q ad v xs):RowQ w Z q ad xs (.returned v) w':=by
  obtain ⟨vs,h1,h2,h3⟩:=h;exact ⟨v,vs,rfl,h1,h2,h3⟩
theorem rowQ_form {w w':World} {Z:List Nat} {q:Nat} {ad:List Nat} {e:Ending} {xs:List Stp} (h:RowQ w Z q ad xs e w'):∃ A c vs,e = .returned (.slice A vs.length c)∧vs.length=xs.length∧w'.ownsRow w.heap.size 141 1 (.slice A vs.length c) vs.length vs∧Iss w' Z q ad vs xs∧MM.Far [] w w':=by
  obtain ⟨v,vs,rfl,h1,h2,h3⟩:=h;obtain ⟨A,c,rfl,_⟩:=MO.form h1;exact ⟨A,c,vs,rfl,h2.1,h1,h2,h3⟩
theorem push_len (b:Nat):∀ l:List Nat,(pushS b l).length=2*l.length:=by
  intro l;induction l with
  | nil=>rfl
  | cons i l ih=>simp only [pushS,List.length_cons,ih];omega
theorem put4 (w:World) {Z:List Nat} (q:Nat) (ad:List Nat) (hz:∀ b∈Z,b < w.heap.size) (b:Nat) (op a bb ww:Int):Calls Tryz.prog 116 #[ptr q,num b,.agg #[.int .u8 op,.int .i64 a,.int .i64 bb,.int .u64 ww]] w (StepQ w Z q ad (.put b (ki op a bb ww))):=put_any w q ad hz b (ki op a bb ww)
theorem keep_own {w w3 w4:World} {B n size:Nat} {t:TypeId} {v:Value} {xs:List Value} {p:Addr} {u:Value} (f:MM.Far [] w w3) (g:MM.Far v.ownBlock.toList w3 w4) (ho:w3.ownsRow B t size v n xs) (hB:w.heap.size≤B) (h:w.cell? p=some u):w4.cell? p=some u:=by
  have hl:=MR.cell_lt h;exact (g.cell (Nat.lt_of_lt_of_le hl f.size) (fun hm=>by have:=(MM.own_lt ho _ (by simpa using hm)).2;omega)).trans (far_cell f h hl)
theorem le_len {a b c:Nat} (h:a=b) (k:b=2*c) (hc:c≤100000):a≤1000000:=by omega
theorem slice_one {g o m c:Nat} {TA:Option Addr} (h:(if c=1 then some (⟨g,o,none⟩:Addr) else some ⟨g,o+1,none⟩)=TA) (W:World):(Instr.slice 24 (.slice (some ⟨g,o,none⟩) (m+1) c) (some (.int .i64 1)) none none).run Tryz.prog W = .ok (.slice TA m (c - 1)) W:=by
  have hs:(sizeOf (Tryz.prog.elem 24)).run Tryz.prog W = .ok 1 W:=by kernel_rfl
  rw [← h,run_slice_l (P:=Tryz.prog) W 24 (some ⟨g,o,none⟩) (m+1) c (by kernel_rfl) .i64 1 (by omega) (by omega),hs];simp [Result.andThen,sliced,Addr.add]
section
variable (w:World) {Z:List Nat} (q:Nat) (ad:List Nat) (hz:∀ b∈Z,b < w.heap.size)
include hz
set_option maxHeartbeats 4000000 in
set_option maxRecDepth 20000 in
theorem call_any (b:Nat) (op:Int) {f:Rf} {A:Option Addr} {m c:Nat} (hl:f.l.length=m+1) (hm:m≤100000) (hS:Sl w Z (.slice A (m+1) c) (ints f.l)) :
    Calls Tryz.prog 120 #[ptr q,num b,fV f (.slice A (m+1) c),.int .u8 op] w (RowQ w Z q ad (callS b f op)):=by
  obtain ⟨kind,at_,n,a,st,ww,l⟩:=f;simp only at hl hS
  obtain ⟨x0,l,rfl⟩:∃ a l',l=a::l':=by
    cases l with
    | nil=>simp at hl
    | cons a l=>exact ⟨a,l,rfl⟩
  have hl2:l.length=m:=by simpa using hl
  obtain ⟨g,o,c',e,d0,hc1,hc2,hg2,hg1,hS2⟩:=Sl.cons (u:=num x0) (vs:=ints l) hS;injection e with e1 e2 e3;subst e1 e3;have hil:(ints l).length=m:=by unfold ints;rw [List.length_map];exact hl2
  rw [hil] at hS2 hc1;obtain ⟨TA,hTA⟩:∃ TA,(if c=1 then some (⟨g,o,none⟩:Addr) else some ⟨g,o+1,none⟩)=TA:=⟨_,rfl⟩
  rw [hTA] at hS2;have hsl:=fun W=>slice_one (m:=m) hTA W
  obtain ⟨W1,hW1⟩:∃ W,w.alloc (.cells (fC ⟨kind,at_,n,a,st,ww,x0::l⟩ (.slice (some ⟨g,o,none⟩) (m+1) c)).toArray 39)=W:=⟨_,rfl⟩
  have F1:MM.Far [] w W1:=by rw [← hW1];exact (MM.Far.refl [] w).alloc _
  have r0:MM.Row W1 w.heap.size 39 (fC ⟨kind,at_,n,a,st,ww,x0::l⟩ (.slice (some ⟨g,o,none⟩) (m+1) c)):=by rw [← hW1];exact MM.Row.new w _ _
  have c7:W1.cell? ⟨w.heap.size,7,none⟩=some (.slice (some ⟨g,o,none⟩) (m+1) c):=r0.at (i:=7) rfl;have d0':=far_cell F1 d0 hg2;have FD:=F1.trans ((MM.Far.refl [] W1).drew) (by simp);have HP:=Lib.hid (pushed_any W1.drew q ad (z_far hz FD) b hl2 hm (hS2.far FD (by simp)));have HF1:=Lib.hid FD;have HZ:=Lib.hid hz;have hPL:=push_len b l;rw [hl2] at hPL;have HPL:=Lib.hid hPL;have HL2:=Lib.hid hl2;show Calls _ _ _ _ (RowQ w Z q ad (pushS b l++[.val b x0,.put b (ki op (l.length:Nat) 0 0)]))
  rw [hl2];clear d0 r0 F1 hS hg1 hg2 hl hz hl2 e2 hil hS2 hTA FD hPL;subst hW1;go_enter Tryz.func120,Tryz.ntmps120
  go_wp2;generalize w.alloc (.cells (fC ⟨kind,at_,n,a,st,ww,x0::l⟩ (.slice (some ⟨g,o,none⟩) (m+1) c)).toArray 39)=W at *
  go_region_held3 (fun w'=>w'.cell? ⟨w.heap.size,7,none⟩=some (.slice (some ⟨g,o,none⟩) (m+1) c)∧w'.cell? ⟨g,o,none⟩=some (num x0)) (first | (with_reducible assumption) | go_keep) (first
    | (go_at_call 143;(with_reducible refine HP.out.mono ?_);intro e w1 hQ;obtain ⟨pA,pc,pvs,rfl,hpl,hpo,hpi,hpf⟩:=rowQ_form hQ;have hk:=keep2 hpf (by assumption);have HPO:=Lib.hid hpo;have HPI:=Lib.hid hpi;have HPF:=Lib.hid hpf;have hpl2:=le_len hpl HPL.out hm;have HA:=Lib.hid (Acc.nil q ad (MM.Far.refl [] w1) (z_far HZ.out (HF1.out.trans hpf (by simp))));clear hQ hpo hpi hpf hpl)
    | (go_at_call 117;(with_reducible refine (value_any _ q ad HA.out.z b _).mono ?_);rintro e w1 ⟨v,rfl,hI,hF⟩;obtain ⟨vf,vl,rfl⟩:=hI.func;have hk:=keep2 hF (by assumption);have HA:=Lib.hid (HA.out.step hI hF);clear hI hF)
    | (go_at_call 116;(with_reducible refine (put4 _ q ad HA.out.z b op m 0 0).mono ?_);rintro e w1 ⟨v,rfl,hI,hF⟩;obtain ⟨vf2,vl2,rfl⟩:=hI.func;have hk:=keep2 hF (by assumption);have HA:=Lib.hid (HA.out.step hI hF);clear hI hF)
    | (refine steps_law [.func (.func vf) #[] vl,.func (.func vf2) #[] vl2] 2 (MM.own_far HPO.out HA.out.far (by simp)) (Nat.le_trans HPF.out.size HA.out.far.size) (Nat.le_trans hpl2 (by decide)) rfl (by decide) (own_one HA.out.iss) rfl (.tmp 16) (.tmp 31) rfl rfl rfl ?_;intro A7 k7 w4 hO4 hF4;have hk:=And.intro (keep_own (HPF.out.trans HA.out.far (by simp)) hF4 (MM.own_far HPO.out HA.out.far (by simp)) (Nat.le_refl _) c7) (keep_own (HPF.out.trans HA.out.far (by simp)) hF4 (MM.own_far HPO.out HA.out.far (by simp)) (Nat.le_refl _) d0');have HN:=Lib.hid (StI.push HPO.out HPI.out HPF.out HA.out.far HA.out.iss hO4 hF4);clear hO4 hF4)
    | fail)
  go_wp2;go_ret
  obtain ⟨vs2,o2,i2,f2⟩:=HN.out;exact rowQ_of ⟨vs2,own_mono o2 HF1.out.size,i2,HF1.out.trans f2 (by simp)⟩
set_option maxHeartbeats 4000000 in
set_option maxRecDepth 20000 in
theorem primitive_any (b:Nat) {f:Rf} {A:Option Addr} {m c:Nat} (hl:f.l.length=m) (hm:m≤100000) (h18:f.n=18→m=1) (hS:Sl w Z (.slice A m c) (ints f.l)) :
    Calls Tryz.prog 139 #[ptr q,num b,fV f (.slice A m c)] w (RowQ w Z q ad (primS b f)):=by
  obtain ⟨kind,at_,n,a,st,ww,l⟩:=f;simp only at hl hS h18
  obtain ⟨W1,hW1⟩:∃ W,w.alloc (.cells (fC ⟨kind,at_,n,a,st,ww,l⟩ (.slice A m c)).toArray 39)=W:=⟨_,rfl⟩
  have F1:MM.Far [] w W1:=by rw [← hW1];exact (MM.Far.refl [] w).alloc _
  have r0:MM.Row W1 w.heap.size 39 (fC ⟨kind,at_,n,a,st,ww,l⟩ (.slice A m c)):=by rw [← hW1];exact MM.Row.new w _ _
  have c0:=r0.at (i:=0) rfl;have c1:=r0.at (i:=1) rfl;have c2:=r0.at (i:=2) rfl;have c3:=r0.at (i:=3) rfl;have c4:=r0.at (i:=4) rfl;have c5:=r0.at (i:=5) rfl;have c6:=r0.at (i:=6) rfl;have c7:W1.cell? ⟨w.heap.size,7,none⟩=some (.slice A m c):=r0.at (i:=7) rfl;have HF0:=Lib.hid F1;have HZ:=Lib.hid hz;unfold primS;simp only
  by_cases h:n=18
  · obtain rfl:=h18 h;subst h;rw [if_pos rfl];have HC:=Lib.hid (callCC_any W1 q ad (z_far hz F1) b 14 (f:=⟨kind,at_,18,a,st,ww,l⟩) hl (hS.far F1 (by simp)));clear r0 F1 hS hz hl h18;subst hW1;go_enter Tryz.func139,Tryz.ntmps139
    go_wp2_with (first
      | (go_at_call 121;refine HC.out.mono ?_;intro e w1 hQ;obtain ⟨pA,pc,pvs,rfl,hpl,hpo,hpi,hpf⟩:=rowQ_form hQ;have HPO:=Lib.hid hpo;have HPI:=Lib.hid hpi;have HPF:=Lib.hid hpf;clear hQ hpo hpi hpf hpl))
    go_ret
    exact rowQ_of ⟨pvs,own_mono HPO.out HF0.out.size,HPI.out,HF0.out.trans HPF.out (by simp)⟩
  · rw [if_neg h];have hn:(n == 18)=false:=by simpa using h
    have FD:=F1.trans ((MM.Far.refl [] W1).drew) (by simp);have HP:=Lib.hid (pushed_any W1.drew q ad (z_far hz FD) b hl hm (hS.far FD (by simp)));have HF1:=Lib.hid FD;have hPL:=push_len b l;rw [hl] at hPL;have HPL:=Lib.hid hPL;rw [hl];clear r0 F1 hS hz hl h18 FD hPL h;subst hW1;go_enter Tryz.func139,Tryz.ntmps139
    go_wp2;generalize w.alloc (.cells (fC ⟨kind,at_,n,a,st,ww,l⟩ (.slice A m c)).toArray 39)=W at *
    go_region_held3 (fun w'=>w'.cell? ⟨w.heap.size,7,none⟩=some (.slice A m c)∧w'.cell? ⟨w.heap.size,2,none⟩=some (num n)) (first | (with_reducible assumption) | go_keep) (first
      | (go_at_call 143;(with_reducible refine HP.out.mono ?_);intro e w1 hQ;obtain ⟨pA,pc,pvs,rfl,hpl,hpo,hpi,hpf⟩:=rowQ_form hQ;have hk:=keep2 hpf (by assumption);have HPO:=Lib.hid hpo;have HPI:=Lib.hid hpi;have HPF:=Lib.hid hpf;have hpl2:=le_len hpl HPL.out hm;have HA:=Lib.hid (Acc.nil q ad (MM.Far.refl [] w1) (z_far HZ.out (HF1.out.trans hpf (by simp))));clear hQ hpo hpi hpf hpl)
      | (go_at_call 116;(with_reducible refine (put4 _ q ad HA.out.z b 11 n m 0).mono ?_);rintro e w1 ⟨v,rfl,hI,hF⟩;obtain ⟨vf2,vl2,rfl⟩:=hI.func;have hk:=keep2 hF (by assumption);have HA:=Lib.hid (HA.out.step hI hF);clear hI hF)
      | (refine steps_law [.func (.func vf2) #[] vl2] 1 (MM.own_far HPO.out HA.out.far (by simp)) (Nat.le_trans HPF.out.size HA.out.far.size) (Nat.le_trans hpl2 (by decide)) rfl (by decide) (own_one HA.out.iss) rfl (.tmp 18) (.tmp 28) rfl rfl rfl ?_;intro A7 k7 w4 hO4 hF4;have hk:=And.intro (keep_own (HPF.out.trans HA.out.far (by simp)) hF4 (MM.own_far HPO.out HA.out.far (by simp)) (Nat.le_refl _) c7) (keep_own (HPF.out.trans HA.out.far (by simp)) hF4 (MM.own_far HPO.out HA.out.far (by simp)) (Nat.le_refl _) c2);have HN:=Lib.hid (StI.push HPO.out HPI.out HPF.out HA.out.far HA.out.iss hO4 hF4);clear hO4 hF4)
      | fail)
    go_wp2;go_ret
    obtain ⟨vs2,o2,i2,f2⟩:=HN.out;exact rowQ_of ⟨vs2,own_mono o2 HF1.out.size,i2,HF1.out.trans f2 (by simp)⟩
end
end GW
end Go.Proofs.YtehgmmbdlnginaaGreatDoor
namespace Go.Proofs.YtehgmmbdlnginaaGreatDoor
open Go.RowKit
set_option linter.unusedVariables false
namespace GW
open LX SX RW6 EX KP SC GP
open EW (Sl Bx)
theorem callQ_of2 {base:Nat} {w W wc w':World} {q:Nat} {fv bv bv':Value} {ks ks':List Value} {ad:List Nat} {s2:Gs} {xs:List Stp} {e:Ending} (hF1:MM.Far [] w W) (hM:Mg base wc q fv bv' ks' ad s2) (hF2:MM.Far (Zof q bv ks ad) W wc) (hz:∀ x∈Zof q bv' ks' ad,x∈Zof q bv ks ad∨W.heap.size≤x)
    (hR:RowQ wc (Zof q bv' ks' ad) q ad xs e w'):CallQ base w q fv bv ks ad (xs,s2) e w':=by
  obtain ⟨v,vs,rfl,h1,h2,h3⟩:=hR;have hs1:=hF1.size;have hs2:=hF2.size;exact ⟨bv',ks',[],v,vs,rfl,by rw [List.append_nil];exact hM.far h3 (by simp),own_mono h1 (by omega),by rw [List.append_nil];exact h2,((hF1.mono (fun b hb _=>by cases hb)).trans hF2 (fun b hb _=>hb)).trans h3 (by simp),by rw [List.append_nil];exact fun b hb=>(hz b hb).imp id (fun h=>by omega)⟩
section
variable {base:Nat} {w:World} {q:Nat} {fv bv:Value} {ks:List Value} {ad:List Nat} {s:Gs}
set_option maxHeartbeats 4000000 in
set_option maxRecDepth 20000 in
theorem function_any (hM:Mg base w q fv bv ks ad s) (hb:base≤w.heap.size) (b:Nat) {f:Rf} {A:Option Addr} {c:Nat} (hl:f.l.length=1) (hS:Sl w (Zof q bv ks ad) (.slice A 1 c) (ints f.l)) (hn:s.bs.length≤100000000000) :
    Calls Tryz.prog 137 #[ptr q,num b,fV f (.slice A 1 c)] w (CallQ base w q fv bv ks ad ([.put b (ki 10 s.bs.length 0 0),.last s.bs.length (f.l.getD 0 0)],⟨s.bs++[⟨f.n,[]⟩],s.bx⟩)):=by
  obtain ⟨kind,at_,n,a,st,ww,l⟩:=f;simp only at hl hS
  obtain ⟨x0,rfl⟩:∃ a,l=[a]:=List.length_eq_one_iff.1 hl;obtain ⟨g,o,rfl,hg1,hg2,d0⟩:=sl_at (k:=0) hS rfl;rw [Nat.add_zero] at d0;obtain ⟨W1,hW1⟩:∃ W,w.alloc (.cells (fC ⟨kind,at_,n,a,st,ww,[x0]⟩ (.slice (some ⟨g,o,none⟩) 1 c)).toArray 39)=W:=⟨_,rfl⟩
  have F1:MM.Far [] w W1:=by rw [← hW1];exact (MM.Far.refl [] w).alloc _
  have r0:MM.Row W1 w.heap.size 39 (fC ⟨kind,at_,n,a,st,ww,[x0]⟩ (.slice (some ⟨g,o,none⟩) 1 c)):=by rw [← hW1];exact MM.Row.new w _ _
  obtain ⟨m,hm⟩:∃ m,s.bs.length=m:=⟨_,rfl⟩
  obtain ⟨B,C,rfl,-,hC1,hC2,-,-⟩:=MO.form hM.main;have hM1:=hM.far F1 (by simp);have k2:=r0.at (i:=2) rfl;have c7:W1.cell? ⟨w.heap.size,7,none⟩=some (.slice (some ⟨g,o,none⟩) 1 c):=r0.at (i:=7) rfl;have d0':=far_cell F1 d0 hg2;have q1:=hM1.head.at (i:=1) rfl;have FA:=(MM.Far.refl [] W1).alloc (.cells #[num n,.slice none 0 0] 42);have q1a:=far_cell FA q1 hM1.head.lt;have HM1:=Lib.hid hM1;have HF1:=Lib.hid F1;have hZ:w.heap.size∉Zof q (.slice B s.bs.length C) ks ad:=fun hm=>by have:=(hM.z _ hm).1;omega
  have HZ:=Lib.hid hZ;have HG:=Lib.hid hg1;have HGL:=Lib.hid (Nat.lt_of_lt_of_le hg2 F1.size);have HKL:=Lib.hid r0.lt;have hbW:=Nat.le_trans hb F1.size;unfold maxLen at hC2;rw [hm] at q1 q1a hC1 hn;have HM2:=Lib.hid hm;have hlen:s.bs.length≤100000000000:=by omega
  show Calls _ _ _ _ (CallQ base w q fv (.slice B s.bs.length C) ks ad ([.put b (ki 10 s.bs.length 0 0),.last s.bs.length x0],⟨s.bs++[⟨n,[]⟩],s.bx⟩))
  clear d0 r0 F1 hS hg1 hg2 hl hM hM1 FA hZ hm;subst hW1;go_enter Tryz.func137,Tryz.ntmps137
  go_wp2;generalize w.alloc (.cells (fC ⟨kind,at_,n,a,st,ww,[x0]⟩ (.slice (some ⟨g,o,none⟩) 1 c)).toArray 39)=W at *
  go_cut [] (fun wx=>∃ A2 c2,Mg base wx q fv (.slice A2 (m+1) c2) (ks++[.slice none 0 0]) ad ⟨s.bs++[⟨n,[]⟩],s.bx⟩∧MM.Far (Zof q (.slice B s.bs.length C) ks ad) W wx∧∀ x∈Zof q (.slice A2 (m+1) c2) (ks++[.slice none 0 0]) ad,x∈Zof q (.slice B s.bs.length C) ks ad∨W.heap.size≤x)
  case first =>
    go_region_law (
      refine MO.step_append ?_ (.tmp 17) (.tmp 21) 28 ?_ base 42 _ 2 32 blocks_slice block_info rfl (by omega) (.slice B m C) m (bC s.bs ks) ?_ ?_ (some ⟨W.heap.size,0,none⟩) 1 1 [num n,.slice none 0 0] ?_ rfl (fun h=>by cases h) [] ?_ ?_ ?_ ?_ ?_ ?_
      · rfl
      · rfl
      · rfl
      · have:=HM1.out.main.alloc (.cells #[num n,.slice none 0 0] 42);rw [HM2.out] at this;exact this
      · rfl
      · exact (MM.Src.row (MM.Row.new W 42 [num n,.slice none 0 0]) (by simp) _ (fun j u hu=>hu))
      · intro u hu;simp only [List.mem_cons,List.not_mem_nil,or_false] at hu
        rcases hu with rfl | rfl <;> rfl
      · simp only [maxLen];omega
      · omega
      · simp;omega
      intro v2 w2 hv2 hg2 hat2;obtain ⟨A2,c2x,rfl,_⟩:=MO.form hv2;have hat3:(Value.slice A2 (m+1) c2x).ownBlock=(Value.slice B s.bs.length C).ownBlock∨∃ b,(Value.slice A2 (m+1) c2x).ownBlock=some b∧W.heap.size≤b:=hat2.imp (fun e=>by rw [e,HM2.out]) (fun e=>⟨_,e,((MM.Far.refl [] W).alloc _).drew.size⟩);have F2:MM.Far (Value.slice B s.bs.length C).ownBlock.toList W w2:=by have:=far_app hg2;rw [HM2.out];exact this
      have hh2:=HM1.out.head.far F2 (fun hm=>MM.own_row_ne HM1.out.main HM1.out.head (by decide) (by simpa using hm));have e1:=hh2.at (i:=1) rfl;have e2:=hh2.frozen 1;rw [HM2.out] at e1;have HN:=Lib.hid (HM1.out.block (w2:=w2) n (by rw [HM2.out];exact hv2) F2 hat3);clear hg2 hv2 hat2 hat3 F2 hh2)
    all_goals
      go_wp2_with fail
      go_meet
      exact ⟨A2,c2x,HN.out.1,HN.out.2.1,HN.out.2.2⟩
  case rest =>
    obtain ⟨A2,c2,hM2,hF2,hz2⟩:=hcut;have c7':=(hF2.cell (p:=⟨w.heap.size,7,none⟩) HKL.out HZ.out).trans c7;have d1':=(hF2.cell (p:=⟨g,o,none⟩) HGL.out HG.out).trans d0';have HA:=Lib.hid (Acc.nil (w:=wc) q ad (MM.Far.refl [] wc) (fun x hx=>(hM2.z x hx).1));have HM3:=Lib.hid hM2;have HF2:=Lib.hid hF2;have HZ2:=Lib.hid hz2;clear hM2 hF2 hz2 c7 d0' q1 q1a k2
    go_upto_region 3 with fail
    go_region_held3 (fun w'=>w'.cell? ⟨w.heap.size,7,none⟩=some (.slice (some ⟨g,o,none⟩) 1 c)∧w'.cell? ⟨g,o,none⟩=some (num x0)) (first | (with_reducible assumption) | go_keep) (first
      | (go_at_call 116;(first | (with_reducible refine (put4 _ q ad HA.out.z b 10 m 0 0).mono ?_) | (have HA:=Lib.hid HA.out.dr;(with_reducible refine (put4 _ q ad HA.out.z b 10 m 0 0).mono ?_)));rintro e w1 ⟨v,rfl,hI,hF⟩;obtain ⟨vf,vl,rfl⟩:=hI.func;have hk:=keep2 hF (by assumption);have HA:=Lib.hid (HA.out.step hI hF);clear hI hF)
      | (go_at_call 76;(with_reducible refine (last_any _ q ad HA.out.z m _).mono ?_);rintro e w1 ⟨v,rfl,hI,hF⟩;obtain ⟨vf,vl,rfl⟩:=hI.func;have hk:=keep2 hF (by assumption);have HA:=Lib.hid (HA.out.step hI hF);clear hI hF)
      | fail)
    go_wp2;go_ret
    have hm2:=HM2.out;subst hm2;exact callQ_of2 HF1.out HM3.out HF2.out HZ2.out (HA.out.row rfl rfl (by omega))
end
theorem rowQ_some {w w':World} {Z:List Nat} {q:Nat} {ad:List Nat} {e:Ending} {xs:List Stp} {n:Nat} (h:RowQ w Z q ad xs e w') (hx:xs.length=n) (hn:0 < n):∃ g c vs,e = .returned (.slice (some ⟨g,0,none⟩) n c)∧w'.ownsRow w.heap.size 141 1 (.slice (some ⟨g,0,none⟩) n c) n vs∧Iss w' Z q ad vs xs∧MM.Far [] w w'∧w.heap.size≤g∧g < w'.heap.size:=by
  obtain ⟨v,vs,rfl,h1,h2,h3⟩:=h;have hl:vs.length=n:=h2.1.trans hx;rw [hl] at h1;obtain ⟨A,c,rfl,_,_,_,_,hh⟩:=MO.form h1
  rcases hh with ⟨_,h0,_⟩ | ⟨g,rfl,h4,h5⟩
  · omega
  · exact ⟨g,c,vs,rfl,h1,h2,h3,h4,h5⟩
theorem seqS_false (b:Nat):∀ l:List Nat,seqS false b l=if l=[] then [.put b (ki 1 0 0 26)] else l.map (.val b):=by
  intro l;induction l with
  | nil=>rfl
  | cons i l ih =>
    cases l with
    | nil=>rfl
    | cons j l=>simp only [seqS,ih,List.map_cons];simp
theorem seqS_true (b:Nat):∀ (l:List Nat) (i:Nat),seqS true b (l++[i])=l.map (.val b)++[.last b i]:=by
  intro l;induction l with
  | nil=>intro i;rfl
  | cons j l ih =>
    intro i;have:=ih i;cases l with
    | nil=>rfl
    | cons k l=>simp only [List.cons_append,seqS,List.map_cons] at this ⊢;rw [this]
section
variable (w:World) {Z:List Nat} (q:Nat) (ad:List Nat) (hz:∀ b∈Z,b < w.heap.size)
include hz
set_option maxHeartbeats 4000000 in
set_option maxRecDepth 20000 in
theorem lastSeq_any (b:Nat) {l:List Nat} {A:Option Addr} {m c:Nat} (hm:l.length=m) (hl:m≤100000) (h:Sl w Z (.slice A m c) (ints l)) :
    Calls Tryz.prog 37 #[ptr q,num b,.slice A m c] w (RowQ w Z q ad (seqS true b l)):=by
  have HS:=Lib.hid (seq_any w q ad hz b hm hl h);have HZ:=Lib.hid hz;by_cases h0:l=[]
  · subst h0;obtain rfl:m=0:=hm.symm;rw [if_pos rfl] at HS;clear hm hl h hz;go_enter Tryz.func37,Tryz.ntmps37
    go_wp2_with (first
      | (go_at_call 74;refine HS.out.mono ?_;intro e w1 hQ;obtain ⟨pA,pc,pvs,rfl,hpl,hpo,hpi,hpf⟩:=rowQ_form hQ;have HPO:=Lib.hid hpo;have HPF:=Lib.hid hpf;have HR:=Lib.hid (returned_any w1 q ad (z_far HZ.out hpf) b hpf.size hpo (by rw [hpl];exact Nat.succ_le_succ (Nat.zero_le _)) hpi);clear hQ hpo hpi hpf hpl)
      | (go_at_call 75;refine HR.out.mono ?_;rintro e w2 ⟨v',vs',rfl,h1,h2,h3⟩;have H1:=Lib.hid h1;have H2:=Lib.hid h2;have H3:=Lib.hid h3;clear h1 h2 h3))
    go_ret
    exact rowQ_of ⟨vs',H1.out,H2.out,HPF.out.trans H3.out (fun b hb hl=>by have:=(MM.own_lt HPO.out b (by simpa using hb)).2;omega)⟩
  · obtain ⟨l,i,rfl⟩:∃ l' i,l=l'++[i]:=⟨l.dropLast,l.getLast h0,(List.dropLast_concat_getLast h0).symm⟩
    rw [if_neg h0] at HS;rw [seqS_true];obtain ⟨k,hk⟩:∃ k,l.length=k:=⟨_,rfl⟩
    have hmk:m=k+1:=by rw [← hm,← hk];simp
    obtain ⟨g,o,rfl,hg1,hg2,d0⟩:=sl_at (k:=k) h (i:=i) (by rw [List.getElem?_append_right (by omega),hk,Nat.sub_self];rfl);have hm0:((m:Int) == 0)=false:=by simp;omega
    have i0:(0:Int)≤(k:Int):=by omega
    have i1:(k:Int) < (m:Int):=by omega
    have i2:(m:Int) - 1=(k:Int):=by omega
    have HXL:Hid (((l++[i]).map (.val b):List Stp).length=m):=Lib.hid (by rw [List.length_map];exact hm);have HXS:Hid (((l++[i]).map (.val b):List Stp).set k (.last b i)=l.map (.val b)++[.last b i]):=Lib.hid (by
      rw [List.map_append,List.set_append_right _ _ (by rw [List.length_map];omega),List.length_map,hk,Nat.sub_self];rfl)
    have hmp:0 < m:=by omega
    have HD:=Lib.hid d0;have HG2:=Lib.hid hg2;clear hm h hz h0 hg1 hk hmk;go_enter Tryz.func37,Tryz.ntmps37
    go_wp2_with (first
      | (go_at_call 74;refine HS.out.mono ?_;intro e w1 hQ;obtain ⟨pg,pc,pvs,rfl,hpo,hpi,hpf,hpg,hpg2⟩:=rowQ_some hQ HXL.out hmp;have HPO:=Lib.hid hpo;have HPI:=Lib.hid hpi;have HPF:=Lib.hid hpf;have HPG:=Lib.hid hpg;have HL:=Lib.hid (last_any w1 q ad (z_far HZ.out hpf) b i);have d1:=far_cell hpf HD.out HG2.out;clear hQ hpo hpi hpf hpg)
      | (go_at_call 76;refine HL.out.mono ?_;rintro e w2 ⟨v,rfl,hI,hF⟩;obtain ⟨vf,vl,rfl⟩:=hI.func;have HI:=Lib.hid hI;have HF:=Lib.hid hF;have HO2:=Lib.hid (MM.own_far HPO.out hF (by simp));obtain ⟨u,hu⟩:∃ u,pvs[k]? = some u:=⟨_,List.getElem?_eq_getElem (by have:=HPO.out.1;omega)⟩;have e1:=own_cell HO2.out hu;have e2:=own_frozen HO2.out k;clear hI hF hu))
    go_ret
    have hst:=(HO2.out.stored k (.func (.func vf) #[] vl)).1;have g0:MM.Far [pg] w2 (w2.setCell ⟨pg,k,none⟩ (.func (.func vf) #[] vl)):=(MM.Far.refl [pg] w2).setCell (by simp) _;have hown:∀ b∈[pg],b < w2.heap.size→(Value.slice (some ⟨pg,0,none⟩) m pc).ownBlock=some b:=fun b hb _=>by rw [List.mem_singleton] at hb;subst hb;rfl
    refine rowQ_of ⟨pvs.set k (.func (.func vf) #[] vl),by rw [List.length_set,show pvs.length=m by have:=HPO.out.1;omega];exact hst,?_,?_⟩
    · rw [← HXS.out];exact ((HPI.out.far HF.out (by simp)).own HO2.out g0 hown).set (HI.out.own HO2.out g0 hown) k
    · exact (HPF.out.trans HF.out (by simp)).trans g0 (fun b hb hl=>by rw [List.mem_singleton] at hb;subst hb;have:=HPG.out;omega)
end
end GW
end Go.Proofs.YtehgmmbdlnginaaGreatDoor
