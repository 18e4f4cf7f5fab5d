/-
  Several texts in one: ExpR9,ExpR10,ExpR11.
-/
import Derived.Test.YtehgmmbdlnginaaGreatDoorQExpR8
import Derived.Deep.RegionHeld3
namespace Go.Proofs.YtehgmmbdlnginaaGreatDoor
open Go.RowKit
set_option linter.unusedVariables false
namespace EX
open LX RX SX
theorem runs_takeP {R:Pt→List Fm→Except Int (List Fm × Nat)} (pre:List Pt) {l:List Nat} {j:Nat} (h:j < l.length) (X:Except Int (List Fm)) :
    (bnd X fun st=>runs R (pre++(l.take (j+1)).map .dat) st [])=bnd (bnd X fun st=>runs R (pre++(l.take j).map .dat) st []) fun y=>bnd (R (.dat l[j]) y.1) fun z=>.ok (z.1,y.2++[z.2]):=by
  rw [bnd_bnd];congr 1
  funext st
  rw [List.take_succ_eq_append_getElem h,List.map_append,← List.append_assoc,runs_app];congr 1
  funext y
  exact runs_one R _ _ _
theorem sumT_mem {f:Nat→Nat} {l:List Nat} {i:Nat} (h:i∈l):f i≤(l.map f).sum:=by
  induction l with
  | nil=>cases h
  | cons a l ih =>
    rw [List.map_cons,List.sum_cons]
    rcases List.mem_cons.1 h with rfl | h
    · omega
    · have:=ih h;omega
def atL (k:Nat) (a:Int) (r:List Nat) (pl:Pl):Pl:=if r.length < k then .bad a else pl
theorem sumT_wts (ns:List Nd) (l:List Nat):sumT ns l=wts ns l:=rfl
theorem sumT_len (ns:List Nd) (l:List Nat):16*l.length≤sumT ns l:=by
  unfold sumT;induction l with
  | nil=>simp
  | cons a l ih =>
    rw [List.map_cons,List.sum_cons,List.length_cons];have:=T_pos ns a;omega
theorem T_kid {ns:List Nd} (h:Ok ns) {i p:Nat} (hp:p∈(ndAt ns i).l):16*T ns p+16≤16*T ns i:=by
  have h1:=T_all h i;have h2:16*T ns p≤wts ns (ndAt ns i).l:=by
    unfold wts;exact sumT_mem (f:=fun i=>16*T ns i) hp
  omega
end EX
namespace EW
open LX SX RW6 EX
open RX (Nd)
section
variable {w0 w w1:World} {Z E:List Nat} {q:Nat} {b o:Nat} {n c:Nat} {ns:List Nd} {dv fv:Value} {X:Except Int (List Fm)} {B:Nat}
theorem slice_ints1 (g o m c k:Nat) (hk:m+1=k) (W:World):(Instr.slice 24 (.slice (some ⟨g,o,none⟩) k c) (some (.int .i64 1)) none none).run Tryz.prog W = .ok (.slice (if c=1 then some ⟨g,o,none⟩ else some ⟨g,o+1,none⟩) m (c - 1)) W:=by
  subst hk;exact slice_ints g o m c W
theorem slice_ints2 (g o m c k:Nat) (hk:m+2=k) (W:World):(Instr.slice 24 (.slice (some ⟨g,o,none⟩) k c) (some (.int .i64 2)) none none).run Tryz.prog W = .ok (.slice (if c=2 then some ⟨g,o,none⟩ else some ⟨g,o+2,none⟩) m (c - 2)) W:=by
  subst hk;have hs:(sizeOf (Tryz.prog.elem 24)).run Tryz.prog W = .ok 1 W:=by kernel_rfl
  rw [run_slice_l (P:=Tryz.prog) W 24 (some ⟨g,o,none⟩) (m+2) c (by kernel_rfl) .i64 2 (by omega) (by omega),hs];simp [Result.andThen,sliced,Addr.add]
theorem Sl.open_ {u:Value} {vs:List Value} {v:Value} (h:Sl w Z v (u::vs)):∃ g o c,v = .slice (some ⟨g,o,none⟩) (vs.length+1) c∧vs.length+1≤c∧c≤maxLen∧(∀ k x,(u::vs)[k]? = some x→w.cell? ⟨g,o+k,none⟩=some x) ∧
    Sl w Z (.slice (if c=1 then some ⟨g,o,none⟩ else some ⟨g,o+1,none⟩) vs.length (c - 1)) vs∧∀ y t,vs=y::t→Sl w Z (.slice (if c=2 then some ⟨g,o,none⟩ else some ⟨g,o+2,none⟩) t.length (c - 2)) t:=by
  have h0:=h;obtain ⟨g,o,c,rfl,hc,h1,h2,hl,hz,h3⟩:=h.cons;obtain ⟨A',c',e,k1,⟨k2,hty⟩,k3⟩:=h0;injection e with e1 e2 e3;subst e1 e3;refine ⟨g,o,c,rfl,h1,h2,fun k x hx=>?_,h3,fun y t e=>?_⟩
  · obtain ⟨g',o',e',_,_,hc'⟩:=k3 k x hx;injection e' with e';injection e' with ea eb;subst ea;subst eb;exact hc'
  · subst e;refine ⟨_,_,rfl,by rw [List.length_cons] at h1;omega,⟨by omega,fun g' o' sp cs fz eA hg x hx=>?_⟩,fun k x hx=>?_⟩
    · have:g'=g:=by
        split at eA
        · injection eA with eA;injection eA with eA;exact eA.symm
        · injection eA with eA;injection eA with eA;exact eA.symm
      subst this;exact hty _ o none cs fz rfl hg x (List.mem_cons_of_mem _ (List.mem_cons_of_mem _ hx))
    · have hk:=(List.getElem?_eq_some_iff.1 hx).1;obtain ⟨g',o',e',_,_,hc'⟩:=k3 (k+2) x hx;injection e' with e';injection e' with ea eb;subst ea;subst eb;refine ⟨g,o+2,by rw [if_neg (by rw [List.length_cons] at h1;omega)],hz,hl,?_⟩
      rw [show o+2+k=o+(k+2) by omega];exact hc'
theorem Stx.datc (h:Stx w0 w E q (.slice (some ⟨b,o,none⟩) n c) fv X B) (D:Dta w0 (some ⟨b,o,none⟩) n ns) {i:Nat} (hi:i < n):∃ LA lc,b < w0.heap.size∧w.cell? ⟨b,o+i*5,none⟩=some (.int .u8 (ndAt ns i).kind) ∧
    w.cell? ⟨b,o+i*5+1,none⟩=some (.int .i64 (ndAt ns i).at_)∧w.cell? ⟨b,o+i*5+2,none⟩=some (.int .i64 (ndAt ns i).n)∧w.cell? ⟨b,o+i*5+3,none⟩=some (.string (ndAt ns i).s) ∧
    w.cell? ⟨b,o+i*5+4,none⟩=some (.slice LA (ndAt ns i).l.length lc)∧Sl w (E++Zx q fv) (.slice LA (ndAt ns i).l.length lc) (ints (ndAt ns i).l):=by
  obtain ⟨b',o',LA,lc,e,h1,h2⟩:=h.dat D hi;injection e with e;injection e with ea eb;subst ea;subst eb;exact ⟨LA,lc,h1,h2⟩
theorem Stx.dsome {DA:Option Addr} (h:Stx w0 w E q (.slice DA n c) fv X B) (D:Dta w0 DA n ns) {i:Nat} (hi:i < n):∃ b o,DA=some ⟨b,o,none⟩:=by
  obtain ⟨b',o',LA,lc,e,_⟩:=h.dat D hi;exact ⟨b',o',e⟩
theorem Dta.kid {DA:Option Addr} (D:Dta w0 DA n ns) {i p:Nat} (hp:p∈(ndAt ns i).l):p < n:=D.len ▸ (EX.kid D.ok hp).2
theorem Col.one {w3:World} {R:List Fm→Except Int (List Fm × Nat)} {k:Nat} {fv3:Value} (h0:w0.heap.size≤w.heap.size) (hF:Fr w w3 q fv fv3) (hS:Stx w0 w3 E q dv fv3 (fst' (bnd X R)) B) (hk:∀ st k',bnd X R = .ok (st,k')→k=k') {g:Nat} (hg:w3.heap.size=g) :
    Col w0 w (w3.alloc (.cells #[.int .i64 ((k:Nat):Int)] 3)) E q dv fv (bnd X fun st=>bnd (R st) fun y=>.ok (y.1,[y.2])) B (.slice (some ⟨g,0,none⟩) 1 1) 1:=by
  subst hg;have f:=(MM.Far.refl [] w3).alloc (.cells #[.int .i64 ((k:Nat):Int)] 3);have ho:(w3.alloc (.cells #[.int .i64 ((k:Nat):Int)] 3)).ownsRow w.heap.size 3 1 (.slice (some ⟨w3.heap.size,0,none⟩) 1 1) 1 (ints [k]) :=
    MO.of_row (MM.Row.new w3 3 (ints [k])) hF.far.size (by rfl) (by unfold maxLen;omega)
  refine ⟨fv3,[k],rfl,ho,?_,hF.trans (Fr.quiet f),fun st l e=>?_⟩
  · have e:fsts (bnd X fun st=>bnd (R st) fun y=>.ok (y.1,[y.2]))=fst' (bnd X R):=by
      cases X with
      | error a=>rfl
      | ok st =>
        show fsts (bnd (R st) _)=fst' (R st)
        cases R st <;> rfl
    rw [e];exact Stx.app (v:=.slice none 0 0) (E:=E) hS (f.mono (fun b hb _=>by cases hb)) ho h0 (.inr ⟨_,rfl,Nat.le_refl _⟩)
  · cases X with
    | error a=>cases e
    | ok st0 =>
      have e:(bnd (R st0) fun y=>Except.ok (y.1,[y.2])) = .ok (st,l):=e;have hk:=fun s k' (e:R st0 = .ok (s,k'))=>hk s k' e
      cases hR:R st0 with
      | error a=>rw [hR] at e;cases e
      | ok y =>
        obtain ⟨s1,k1⟩:=y;rw [hR] at e;injection e with e;injection e with _ e;rw [← e,hk s1 k1 hR]
end
end EW
end Go.Proofs.YtehgmmbdlnginaaGreatDoor
namespace Go.Proofs.YtehgmmbdlnginaaGreatDoor
open Go.RowKit
set_option linter.unusedVariables false
namespace EW
open LX SX RW6 EX
open RX (Nd)
section
variable {w0 w w1:World} {E:List Nat} {q:Nat} {DA:Option Addr} {n c:Nat} {ns:List Nd} {dv fv:Value} {X:Except Int (List Fm)} {B:Nat}
set_option maxHeartbeats 4000000 in
set_option maxRecDepth 20000 in
theorem slambda_any {N:Nat} (HF:FormC w0 q DA n c ns N) (D:Dta w0 DA n ns) (h:Stx w0 w E q (.slice DA n c) fv X B) {i:Nat} (hi:i < n) (hN:16*T ns i≤N+9) (hB:B+(16*T ns i - 8)≤200000) {x:Nat} {r:List Nat} (hl:(ndAt ns i).l=x::r) :
    Calls Tryz.prog 98 #[ptr q,num i] w (OutQ w0 w E q (.slice DA n c) fv (bnd X (onPl (exq ns) (atL 2 (ndAt ns i).at_ r (lambdaP ns (ndAt ns i).at_ r)))) (B+(16*T ns i - 8))):=by
  obtain ⟨b,o,rfl⟩:=h.dsome D hi;have HW:=Lib.hid (fun (w':World) (f:MM.Far [] w w')=>swrong_any (h.to f) D.nd D.len hi (D.at0 i));obtain ⟨LA,lc,hb,d0,d1,d2,d3,d4,hSl⟩:=h.datc D hi;have c0:=h.q0;have hi0:(0:Int)≤(i:Int):=by omega
  have hi1:(i:Int) < (n:Int):=by omega
  have hT:=T_all D.ok i;have hT1:=T_pos ns i;have hx:=D.kid (i:=i) (p:=x) (by rw [hl];exact List.mem_cons_self ..);have hall:=fun p (hp:p∈r)=>D.kid (i:=i) (p:=p) (by rw [hl];exact List.mem_cons_of_mem _ hp)
  have hkT:=fun p (hp:p∈r)=>T_kid D.ok (i:=i) (p:=p) (by rw [hl];exact List.mem_cons_of_mem _ hp)
  have hkl:=D.few i;rw [hl,wts_cons] at hT;rw [hl] at hSl d4 hkl;obtain ⟨g,oo,cc,e,hc1,hc2,hcs,-,hs2⟩:=Sl.open_ (u:=num x) (vs:=ints r) hSl;injection e with e1 e2 e3;subst e1 e3;have F0:=(MM.Far.refl [] w).alloc (.cells #[.int .u8 (ndAt ns i).kind,.int .i64 (ndAt ns i).at_,.int .i64 (ndAt ns i).n,.string (ndAt ns i).s,.slice (some ⟨g,oo,none⟩) (x::r).length lc] 122);generalize (ndAt ns i).kind=kd at *;generalize (ndAt ns i).s=sd at *;generalize (ndAt ns i).n=nd at *;generalize (ndAt ns i).at_=a at *;generalize hm:(x::r).length=m at *;have hmr:r.length+1=m:=by rw [← hm];rfl
  by_cases hlt:r.length < 2
  · have hE:atL 2 a r (lambdaP ns a r) = .bad a:=by unfold atL;rw [if_pos hlt]
    have h3:(m:Int) < 3:=by omega
    have HC:=Lib.hid (HW.out _ F0);rw [hE];have HF0:=Lib.hid F0;clear HF D h hl hT hx hall hkT hSl hcs hs2 hE hm hmr hlt F0 HW e2;unfold ptr num at *;go_enter Tryz.func98,Tryz.ntmps98
    go_wp2_with (first
      | (go_at_call 59;(with_reducible refine HC.out.mono ?_);rintro e w1 hQ;have HQ:=Lib.hid (hQ.from (Fr.quiet HF0.out));obtain ⟨k,fv1,he,-⟩:=hQ;(replace he:e = .returned (.int .i64 ((k:Nat):Int)):=he);subst he))
    go_ret
    exact HQ.out.mono (by omega)
  · obtain ⟨y,t,rfl⟩:=one (r:=r) (by omega);have hy:=hall y (List.mem_cons_self ..);have hyT:=hkT y (List.mem_cons_self ..);have hyk:=D.few y;obtain ⟨LB,lb,-,g0,g1,g2,g3,g4,hSy⟩:=h.datc D hy;have hy0:(0:Int)≤(y:Int):=by omega
    have hy1:(y:Int) < (n:Int):=by omega
    have x1:=hcs 1 (num y) rfl;have hst:=hs2 (num y) (ints t) rfl;have htl:(ints t).length+2=m:=by rw [ints_len];simpa using hmr
    have hsl2:=fun X'=>slice_ints2 g oo (ints t).length lc m htl X'
    generalize (if lc=2 then some (⟨g,oo,none⟩:Addr) else some ⟨g,oo+2,none⟩)=SA at hsl2 hst;generalize lc - 2=sc at hsl2 hst;have h3:¬ (m:Int) < 3:=by rw [List.length_cons] at hlt;rw [ints_len] at htl;omega
    have h1m:(1:Int) < (m:Int):=by omega
    have hE:atL 2 a (y::t) (lambdaP ns a (y::t))=match namesOf ns (ndAt ns y).l with
        | none=>.bad a
        | some names=>if (ndAt ns y).kind=4 then function a names (body a t) else .bad a:=by
      unfold atL;rw [if_neg hlt];rfl
    have HL0:=Lib.hid (slist_at (h.to F0) D hy 0 0 rfl (by omega));have HNM:=Lib.hid (fun (w2:World) (f:MM.Far [] w w2)=>snames_any (h.to f) D (hSy.far f (by simp)) rfl (fun p hp=>D.kid hp));have HFN:=Lib.hid (fun (w2:World) (f:MM.Far [] w w2) (NA:Option Addr) (np nc:Nat) (names:List ByteArray) (hn:Sl w2 (E++Zx q fv) (.slice NA np nc) (strs names)) =>
      sfn_any HF (h.to f) D.ok a hn (hst.far f (by simp)) (by rw [ints_len]) (by rw [List.length_cons] at hmr;rw [ints_len];omega) (fun p hp=>⟨hall p (List.mem_cons_of_mem _ hp),by have:=hkT p (List.mem_cons_of_mem _ hp);omega⟩) (by rw [sumT_wts];rw [wts_cons] at hT;have:=T_pos ns y;omega))
    have HB2:Hid (B+sumT ns t+2≤B+(16*T ns i - 8)):=Lib.hid (by rw [sumT_wts];rw [wts_cons] at hT;have:=T_pos ns y;omega);have HBX:Hid (MM.Row (w.alloc (.cells #[.int .u8 kd,.int .i64 a,.int .i64 nd,.string sd,.slice (some ⟨g,oo,none⟩) m lc] 122)) w.heap.size 122 [.int .u8 kd,.int .i64 a,.int .i64 nd,.string sd,.slice (some ⟨g,oo,none⟩) m lc]):=Lib.hid (MM.Row.new w _ _);have HBZ:Hid (w.heap.size∉Zx q fv):=Lib.hid (fun hm=>by have:=h.low.2.1 _ hm;omega);have HF0:=Lib.hid F0;have HOKN:=Lib.hid D.ok;have v0:=far_cell F0 c0;have v4:=HBX.out.at (i:=4) rfl;have v1:=HBX.out.at (i:=1) rfl;have vx:=far_cell F0 x1;have h3d:decide ((m:Int) < 3)=false:=by rw [decide_eq_false_iff_not];exact h3
    rw [hE];by_cases hk4:(ndAt ns y).kind=4
    · have h8:decide ((ndAt ns y).kind=4∧0≤(ndAt ns y).l.length)=true:=decide_eq_true ⟨hk4,Nat.zero_le _⟩;rw [h8] at HL0;simp only [hk4,if_true]
      clear h8;have vg:=far_cell F0 g4;have HC1:=Lib.hid (HNM.out _ F0.drew);clear HF D h hl hT hx hall hkT hSl hcs hs2 hE hm hmr hlt F0 hst hSy htl hyT e2 g0 g1 g2 g3 hk4 hyk;generalize (ndAt ns y).l=ly at *;generalize ly.length=my at *;cases hnm:namesOf ns ly with
      | none =>
        rw [hnm] at HC1;simp only []
        clear HFN hnm HNM;unfold ptr num at *;go_enter Tryz.func98,Tryz.ntmps98
        go_wp2_with (first
          | (go_at_call 129;(with_reducible refine HL0.out.mono ?_);rintro e w1 ⟨rfl,rfl⟩))
        generalize w.alloc (.cells #[.int .u8 kd,.int .i64 a,.int .i64 nd,.string sd,.slice (some ⟨g,oo,none⟩) m lc] 122)=W at *
        go_region_held3 (fun w'=>w'.cell? ⟨q,0,none⟩=some (.slice (some ⟨b,o,none⟩) n c)∧w'.cell? ⟨w.heap.size,4,none⟩=some (.slice (some ⟨g,oo,none⟩) m lc)∧w'.cell? ⟨g,oo+1,none⟩=some (.int .i64 (y:Nat))∧w'.cell? ⟨b,o+y*5+4,none⟩=some (.slice LB my lb)) (first | (with_reducible assumption) | go_keep) (first
          | (go_at_call 130;(with_reducible refine HC1.out.mono ?_);rintro e w2 ⟨hQ,hF2⟩;obtain rfl:e = .returned (.tuple #[.slice none 0 0,.bool false]):=hQ;have hk:=keep4 hF2 (by assumption);have HF2:=Lib.hid ((HF0.out.drew).trans hF2 (by simp));have HC:=Lib.hid (HW.out _ HF2.out);clear hF2))
        go_wp2_with (first
          | (go_at_call 59;(with_reducible refine HC.out.mono ?_);rintro e w3 hQ;have HQ:=Lib.hid (hQ.from (Fr.quiet HF2.out));obtain ⟨k,fv1,he,-⟩:=hQ;(replace he:e = .returned (.int .i64 ((k:Nat):Int)):=he);subst he))
        go_ret
        exact HQ.out.mono (by omega)
      | some names =>
        rw [hnm] at HC1;simp only []
        clear hnm HNM;have hEX:Hid (onPl (exq ns) (function a names (body a t))=exq ns (.fn a names (body a t))):=Lib.hid (by funext st;rw [exq_eq HOKN.out];rfl);unfold ptr num at *;go_enter Tryz.func98,Tryz.ntmps98
        go_wp2_with (first
          | (go_at_call 129;(with_reducible refine HL0.out.mono ?_);rintro e w1 ⟨rfl,rfl⟩))
        generalize w.alloc (.cells #[.int .u8 kd,.int .i64 a,.int .i64 nd,.string sd,.slice (some ⟨g,oo,none⟩) m lc] 122)=W at *
        go_region_held3 (fun w'=>w'.cell? ⟨q,0,none⟩=some (.slice (some ⟨b,o,none⟩) n c)∧w'.cell? ⟨w.heap.size,4,none⟩=some (.slice (some ⟨g,oo,none⟩) m lc)∧w'.cell? ⟨g,oo+1,none⟩=some (.int .i64 (y:Nat))∧w'.cell? ⟨b,o+y*5+4,none⟩=some (.slice LB my lb)) (first | (with_reducible assumption) | go_keep) (first
          | (go_at_call 130;(with_reducible refine HC1.out.mono ?_);rintro e w2 ⟨⟨nv,rfl,hnv⟩,hF2⟩;obtain ⟨NA,nc,rfl,-,-⟩:=hnv.form;have hk:=keep4 hF2 (by assumption);have HF2:=Lib.hid ((HF0.out.drew).trans hF2 (by simp));have HC:=Lib.hid (HFN.out _ HF2.out.drew _ _ _ _ (hnv.far (MM.Far.refl [] w2).drew (by simp)));have HBX2:=Lib.hid (HBX.out.drew.far hF2 (by simp)).drew;have u1:=HBX2.out.at (i:=1) rfl;have u4:=HBX2.out.at (i:=4) rfl;clear hF2 hnv))
        go_wp2_with (fail)
        go_region_held3 (fun w'=>w'.cell? ⟨w.heap.size,1,none⟩=some (.int .i64 a)∧w'.cell? ⟨w.heap.size,4,none⟩=some (.slice (some ⟨g,oo,none⟩) m lc)) (first | (with_reducible assumption) | go_keep) (first
          | (go_at_call 131;(with_reducible refine HC.out.mono ?_);rintro e w3 hQ;have HQ:=Lib.hid (hQ.from (Fr.quiet HF2.out.drew));obtain ⟨k,fv1,he,hFr,-⟩:=hQ;(replace he:e = .returned (.int .i64 ((k:Nat):Int)):=he);subst he;have HBX3:=Lib.hid (HBX2.out.far hFr.far HBZ.out);have hk:w3.cell? ⟨w.heap.size,1,none⟩=some (.int .i64 a)∧w3.cell? ⟨w.heap.size,4,none⟩=some (.slice (some ⟨g,oo,none⟩) m lc):=⟨HBX3.out.at (i:=1) rfl,HBX3.out.at (i:=4) rfl⟩;clear hFr))
        go_wp2;go_ret
        have hh:=HQ.out;rw [← hEX.out] at hh;exact hh.mono HB2.out
    · have h8:decide ((ndAt ns y).kind=4∧0≤(ndAt ns y).l.length)=false:=decide_eq_false (fun e=>hk4 e.1);rw [h8] at HL0;have hE2:(match namesOf ns (ndAt ns y).l with
        | none=>Pl.bad a
        | some names=>if (ndAt ns y).kind=4 then function a names (body a t) else .bad a) = .bad a:=by
        cases namesOf ns (ndAt ns y).l with
        | none=>rfl
        | some names=>simp only [];rw [if_neg hk4]
      rw [hE2];have HC:=Lib.hid (HW.out _ HF0.out);clear h8 hE2 hk4 HF D h hl hT hx hall hkT hSl hcs hs2 hE hm hmr hlt F0 hst hSy htl hyT e2 g0 g1 g2 g3 HNM HFN;unfold ptr num at *;go_enter Tryz.func98,Tryz.ntmps98
      go_wp2_with (first
        | (go_at_call 129;(with_reducible refine HL0.out.mono ?_);rintro e w1 ⟨rfl,rfl⟩)
        | (go_at_call 59;(with_reducible refine HC.out.mono ?_);rintro e w1 hQ;have HQ:=Lib.hid (hQ.from (Fr.quiet HF0.out));obtain ⟨k,fv1,he,-⟩:=hQ;(replace he:e = .returned (.int .i64 ((k:Nat):Int)):=he);subst he))
      go_ret
      exact HQ.out.mono (by omega)
end
end EW
end Go.Proofs.YtehgmmbdlnginaaGreatDoor
namespace Go.Proofs.YtehgmmbdlnginaaGreatDoor
open Go.RowKit
set_option linter.unusedVariables false
namespace EW
open LX SX RW6 EX
open RX (Nd)
section
variable {w0 w w1:World} {E:List Nat} {q:Nat} {DA:Option Addr} {n c:Nat} {ns:List Nd} {dv fv:Value} {X:Except Int (List Fm)} {B:Nat}
set_option maxHeartbeats 4000000 in
set_option maxRecDepth 20000 in
theorem slet_any {N:Nat} (HF:FormC w0 q DA n c ns N) (D:Dta w0 DA n ns) (h:Stx w0 w E q (.slice DA n c) fv X B) {i:Nat} (hi:i < n) (hN:16*T ns i≤N+9) (hB:B+(16*T ns i - 8)≤200000) {x:Nat} {r:List Nat} (hl:(ndAt ns i).l=x::r) :
    Calls Tryz.prog 102 #[ptr q,num i] w (OutQ w0 w E q (.slice DA n c) fv (bnd X (onPl (exq ns) (atL 2 (ndAt ns i).at_ r (letP ns (ndAt ns i).at_ r)))) (B+(16*T ns i - 8))):=by
  obtain ⟨b,o,rfl⟩:=h.dsome D hi;have HW:=Lib.hid (fun (w':World) (f:MM.Far [] w w')=>swrong_any (h.to f) D.nd D.len hi (D.at0 i));obtain ⟨LA,lc,hb,d0,d1,d2,d3,d4,hSl⟩:=h.datc D hi;have c0:=h.q0;have hi0:(0:Int)≤(i:Int):=by omega
  have hi1:(i:Int) < (n:Int):=by omega
  have hT:=T_all D.ok i;have hT1:=T_pos ns i;have hx:=D.kid (i:=i) (p:=x) (by rw [hl];exact List.mem_cons_self ..);have hall:=fun p (hp:p∈r)=>D.kid (i:=i) (p:=p) (by rw [hl];exact List.mem_cons_of_mem _ hp)
  have hkT:=fun p (hp:p∈r)=>T_kid D.ok (i:=i) (p:=p) (by rw [hl];exact List.mem_cons_of_mem _ hp)
  have hkl:=D.few i;rw [hl,wts_cons] at hT;rw [hl] at hSl d4 hkl;obtain ⟨g,oo,cc,e,hc1,hc2,hcs,-,hs2⟩:=Sl.open_ (u:=num x) (vs:=ints r) hSl;injection e with e1 e2 e3;subst e1 e3;have F0:=(MM.Far.refl [] w).alloc (.cells #[.int .u8 (ndAt ns i).kind,.int .i64 (ndAt ns i).at_,.int .i64 (ndAt ns i).n,.string (ndAt ns i).s,.slice (some ⟨g,oo,none⟩) (x::r).length lc] 122);generalize (ndAt ns i).kind=kd at *;generalize (ndAt ns i).s=sd at *;generalize (ndAt ns i).n=nd at *;generalize (ndAt ns i).at_=a at *;generalize hm:(x::r).length=m at *;have hmr:r.length+1=m:=by rw [← hm];rfl
  by_cases hlt:r.length < 2
  · have hE:atL 2 a r (letP ns a r) = .bad a:=by unfold atL;rw [if_pos hlt]
    have h3:(m:Int) < 3:=by omega
    have HC:=Lib.hid (HW.out _ F0);rw [hE];have HF0:=Lib.hid F0;clear HF D h hl hT hx hall hkT hSl hcs hs2 hE hm hmr hlt F0 HW e2;unfold ptr num at *;go_enter Tryz.func102,Tryz.ntmps102
    go_wp2_with (first
      | (go_at_call 59;(with_reducible refine HC.out.mono ?_);rintro e w1 hQ;have HQ:=Lib.hid (hQ.from (Fr.quiet HF0.out));obtain ⟨k,fv1,he,-⟩:=hQ;(replace he:e = .returned (.int .i64 ((k:Nat):Int)):=he);subst he))
    go_ret
    exact HQ.out.mono (by omega)
  · obtain ⟨y,t,rfl⟩:=one (r:=r) (by omega);have hy:=hall y (List.mem_cons_self ..);have hyT:=hkT y (List.mem_cons_self ..);have hyW:=T_all D.ok y;have x1:=hcs 1 (num y) rfl;have hst:=hs2 (num y) (ints t) rfl;have htl:(ints t).length+2=m:=by rw [ints_len];simpa using hmr
    have hsl2:=fun X'=>slice_ints2 g oo (ints t).length lc m htl X'
    generalize (if lc=2 then some (⟨g,oo,none⟩:Addr) else some ⟨g,oo+2,none⟩)=SA at hsl2 hst;generalize lc - 2=sc at hsl2 hst;have h3:¬ (m:Int) < 3:=by rw [List.length_cons] at hlt;rw [ints_len] at htl;omega
    have h1m:(1:Int) < (m:Int):=by omega
    have hE:atL 2 a (y::t) (letP ns a (y::t))=match dpairs ns y with
        | none=>.bad a
        | some (bs,vs)=>match namesOf ns bs with
          | none=>.bad a
          | some names=>call a names (body a t) (vs.map .dat):=by
      unfold atL;rw [if_neg hlt,letP_eq];rfl
    have HPR:=Lib.hid (spairs_any (h.to F0) D hy);have HNM:=Lib.hid (fun (w2:World) (f:MM.Far [] w w2) (A:Option Addr) (m lc:Nat) (l:List Nat) (hl:Sl w2 (E++Zx q fv) (.slice A m lc) (ints l)) (hin:∀ p∈l,p < n)=>snames_any (h.to f) D hl (by rw [hl.len,ints_len]) hin);have HFN:=Lib.hid (fun (w2:World) (f:MM.Far [] w w2) (NA:Option Addr) (np nc:Nat) (names:List ByteArray) (hn:Sl w2 (E++Zx q fv) (.slice NA np nc) (strs names)) =>
      sfn_any HF (h.to f) D.ok a hn (hst.far f (by simp)) (by rw [ints_len]) (by rw [List.length_cons] at hmr;rw [ints_len];omega) (fun p hp=>⟨hall p (List.mem_cons_of_mem _ hp),by have:=hkT p (List.mem_cons_of_mem _ hp);omega⟩) (by rw [sumT_wts];rw [wts_cons] at hT;have:=T_pos ns y;omega))
    have HBX:Hid (MM.Row (w.alloc (.cells #[.int .u8 kd,.int .i64 a,.int .i64 nd,.string sd,.slice (some ⟨g,oo,none⟩) m lc] 122)) w.heap.size 122 [.int .u8 kd,.int .i64 a,.int .i64 nd,.string sd,.slice (some ⟨g,oo,none⟩) m lc]):=Lib.hid (MM.Row.new w _ _);have HBZ:Hid (w.heap.size∉Zx q fv):=Lib.hid (fun hm=>by have:=h.low.2.1 _ hm;omega);have HF0:=Lib.hid F0;have HOKN:=Lib.hid D.ok;have v1:=HBX.out.at (i:=1) rfl;have v4:=HBX.out.at (i:=4) rfl;have vx:=far_cell F0 x1;rw [hE];cases hd:dpairs ns y with
    | none =>
      rw [hd] at HPR;simp only []
      clear HF D h hl hT hx hall hkT hSl hcs hs2 hE hm hmr hlt F0 hst htl hyT e2 HFN hd;unfold ptr num at *;go_enter Tryz.func102,Tryz.ntmps102
      go_wp2_with (first
        | (go_at_call 103;(with_reducible refine HPR.out.mono ?_);rintro e w1 ⟨hQ,hF1⟩;obtain rfl:e = .returned (.tuple #[.slice none 0 0,.slice none 0 0,.bool false]):=hQ;have HF1:=Lib.hid (HF0.out.trans hF1 (by simp));have HC1:=Lib.hid (HNM.out _ HF1.out _ _ _ [] (Sl.nil _ _) (by simp));clear hF1)
        | (go_at_call 130;(with_reducible refine HC1.out.mono ?_);rintro e w2 ⟨⟨nv,rfl,hnv⟩,hF2⟩;have HF2:=Lib.hid (HF1.out.trans hF2 (by simp));have HC:=Lib.hid (HW.out _ HF2.out);clear hF2 hnv)
        | (go_at_call 59;(with_reducible refine HC.out.mono ?_);rintro e w3 hQ;have HQ:=Lib.hid (hQ.from (Fr.quiet HF2.out));obtain ⟨k,fv1,he,-⟩:=hQ;(replace he:e = .returned (.int .i64 ((k:Nat):Int)):=he);subst he))
      go_ret
      exact HQ.out.mono (by omega)
    | some pr =>
      obtain ⟨bs,vs⟩:=pr;rw [hd] at HPR;simp only []
      obtain ⟨hbv,hvw,hin⟩:=pairs_facts D.ok (dpairs_some hd).1;have hbn:=fun p (hp:p∈bs)=>D.len ▸ hin p (List.mem_append_left _ hp)
      have hvn:=fun p (hp:p∈vs)=>D.len ▸ hin p (List.mem_append_right _ hp)
      cases hnm:namesOf ns bs with
      | none =>
        simp only []
        clear HF D h hl hT hx hall hkT hSl hcs hs2 hE hm hmr hlt F0 hst htl hyT e2 HFN hd;unfold ptr num at *;go_enter Tryz.func102,Tryz.ntmps102
        go_wp2_with (first
          | (go_at_call 103;(with_reducible refine HPR.out.mono ?_);rintro e w1 ⟨⟨bv,vv,rfl,hbS,hvS⟩,hF1⟩;obtain ⟨BA,bc,rfl,-,-⟩:=hbS.form;obtain ⟨VA,vc,rfl,-,-⟩:=hvS.form;have HF1:=Lib.hid (HF0.out.trans hF1 (by simp));have HC1:=Lib.hid (HNM.out _ HF1.out _ _ _ bs hbS hbn);rw [hnm] at HC1;clear hF1 hbS hvS)
          | (go_at_call 130;(with_reducible refine HC1.out.mono ?_);rintro e w2 ⟨hQ,hF2⟩;obtain rfl:e = .returned (.tuple #[.slice none 0 0,.bool false]):=hQ;have HF2:=Lib.hid (HF1.out.trans hF2 (by simp));have HC:=Lib.hid (HW.out _ HF2.out);clear hF2)
          | (go_at_call 59;(with_reducible refine HC.out.mono ?_);rintro e w3 hQ;have HQ:=Lib.hid (hQ.from (Fr.quiet HF2.out));obtain ⟨k,fv1,he,-⟩:=hQ;(replace he:e = .returned (.int .i64 ((k:Nat):Int)):=he);subst he))
        go_ret
        exact HQ.out.mono (by omega)
      | some names =>
        simp only []
        have hWE:=HF;clear hE hlt hd;have hvT:∀ p∈vs,16*T ns p+32≤16*T ns i:=fun p hp=>by
          have h1:16*T ns p≤wts ns vs:=by unfold wts;exact sumT_mem (f:=fun i=>16*T ns i) hp
          omega
        have hsum:B+sumT ns t+2+sumT ns vs+1≤B+(16*T ns i - 8):=by
          rw [sumT_wts,sumT_wts];rw [wts_cons] at hT;have:=T_pos ns x;omega
        have HSUM:=Lib.hid hsum;have HST:=Lib.hid (fun (w2:World) (f:MM.Far [] w w2)=>h.to f);have HVT:=Lib.hid hvT;have HVN:=Lib.hid hvn;have HFC:=Lib.hid HF;have HBB:=Lib.hid hB;have HNN:=Lib.hid hN;have HSE:Hid (∀ b∈E,b < w.heap.size):=Lib.hid (fun b hb=>(h.ezE b hb).1);have H0:Hid (w0.heap.size≤w.heap.size):=Lib.hid h.low.1.size;clear HF D h hl hT hx hall hkT hSl hcs hs2 hm hmr F0 hst htl hyT e2 hWE hsum hvT hvn hvw hin hyW hbv;unfold ptr num at *;go_enter Tryz.func102,Tryz.ntmps102
        go_wp2_with (first
          | (go_at_call 103;(with_reducible refine HPR.out.mono ?_);rintro e w1 ⟨⟨bv,vv,rfl,hbS,hvS⟩,hF1⟩;obtain ⟨BA,bc,rfl,-,-⟩:=hbS.form;obtain ⟨VA,vc,rfl,-,hvm⟩:=hvS.form;have HF1:=Lib.hid (HF0.out.trans hF1 (by simp));have HC1:=Lib.hid (HNM.out _ HF1.out _ _ _ bs hbS hbn);rw [hnm] at HC1;have HVS:=Lib.hid hvS;have HB1:=Lib.hid (HBX.out.far hF1 (by simp));clear hF1 hbS hvS)
          | (go_at_call 130;(with_reducible refine HC1.out.mono ?_);rintro e w2 ⟨⟨nv,rfl,hnv⟩,hF2⟩;obtain ⟨NA,nc,rfl,-,-⟩:=hnv.form;have HF2:=Lib.hid (HF1.out.trans hF2 (by simp));have HVS2:=Lib.hid (HVS.out.far hF2 (by simp));have HBX2:=Lib.hid (HB1.out.far hF2 (by simp));have HC:=Lib.hid (HFN.out _ HF2.out.drew _ _ _ _ (hnv.far (MM.Far.refl [] w2).drew (by simp)));have u1:=HBX2.out.at (i:=1) rfl;have u4:=HBX2.out.at (i:=4) rfl;clear hF2 hnv))
        go_region_held3 (fun w'=>w'.cell? ⟨w.heap.size,1,none⟩=some (.int .i64 a)∧w'.cell? ⟨w.heap.size,4,none⟩=some (.slice (some ⟨g,oo,none⟩) m lc)) (first | (with_reducible assumption) | go_keep) (first
          | (go_at_call 131;(with_reducible refine HC.out.mono ?_);rintro e w3 hQ;have HQ:=Lib.hid hQ;obtain ⟨k,fv1,he,hFr,hS3,hkk⟩:=hQ;(replace he:e = .returned (.int .i64 ((k:Nat):Int)):=he);subst he;have HFR:=Lib.hid hFr;have HS3:=Lib.hid hS3;have HKK:=Lib.hid hkk;have HBX3:=Lib.hid (HBX2.out.drew.far hFr.far HBZ.out);have hk:w3.cell? ⟨w.heap.size,1,none⟩=some (.int .i64 a)∧w3.cell? ⟨w.heap.size,4,none⟩=some (.slice (some ⟨g,oo,none⟩) m lc):=⟨HBX3.out.at (i:=1) rfl,HBX3.out.at (i:=4) rfl⟩;clear hFr hS3 hkk))
        go_wp2;generalize hmv:(ints vs).length=mv at *;rw [ints_len] at hmv;have HMV:=Lib.hid hmv;have hmv1:mv≤100000:=by have h1:=sumT_len ns vs;have h2:=HSUM.out;have h3:=HBB.out;omega
        have HC0:Hid (Col w0 w2.drew (w3.alloc (.cells #[.int .i64 ((k:Nat):Int)] 3)) E q (.slice (some ⟨b,o,none⟩) n c) fv (bnd X fun st=>runs (exq ns) ([.fn a names (body a t)]++(vs.take 0).map .dat) st []) (B+sumT ns t+2+sumT ns (vs.take 0)) (.slice (some ⟨w3.heap.size,0,none⟩) 1 1) 1):=Lib.hid (by
          have hh:=Col.one (Nat.le_trans H0.out HF2.out.drew.size) HFR.out (HS3.out.mono (show B+sumT ns t+2≤B+sumT ns t+2+sumT ns (vs.take 0) by omega)) HKK.out rfl;have e:(bnd X fun st=>bnd (exq ns (.fn a names (body a t)) st) fun y=>.ok (y.1,[y.2]))=bnd X fun st=>runs (exq ns) ([.fn a names (body a t)]++(vs.take 0).map .dat) st []:=by
            congr 1
            funext st
            rw [List.take_zero,List.map_nil,List.append_nil];exact (runs_one (exq ns) (.fn a names (body a t)) st []).symm
          rw [← e];exact hh)
        clear HQ HFR HS3 HKK u1 u4 HC HC1 HVS HB1 hmv HPR HNM HFN HBX3
        go_loopw [11,12] (fun s11 s12 wr=>∃ (j:Nat) (OA:Option Addr) (oc:Nat),j≤mv∧s11 = .slice OA (j+1) oc∧s12 = .int .i64 (j:Int)∧Hid (Col w0 w2.drew wr E q (.slice (some ⟨b,o,none⟩) n c) fv (bnd X fun st=>runs (exq ns) ([.fn a names (body a t)]++(vs.take j).map .dat) st []) (B+sumT ns t+2+sumT ns (vs.take j)) (.slice OA (j+1) oc) (j+1))) (fun _ s12 _=>mv - (intOf s12).toNat)
        case atStart=>exact ⟨0,_,1,by omega,rfl,rfl,HC0⟩
        case round =>
          obtain ⟨j,OA,oc,hj,rfl,rfl,hC⟩:=hrel;obtain ⟨wo,rfl⟩:∃ wo,wo=wr:=⟨_,rfl⟩
          clear HC0;have hfr:∃ fv',Fr w2.drew wo q fv fv':=by obtain ⟨fv',_,_,_,_,hF,_⟩:=hC.out;exact ⟨fv',hF⟩
          obtain ⟨fv',hFr⟩:=hfr;by_cases hlt:j < mv
          · have hj2:j < vs.length:=by rw [HMV.out];exact hlt
            obtain ⟨A',c',e,hc1,hc2,hc3⟩:=hFr.sl (HVS2.out.far (MM.Far.refl [] w2).drew (by simp));injection e with e1 e2 e3;subst e1 e3;obtain ⟨g5,o5,rfl,hz,hg,cc⟩:=hc3 j (.int .i64 ((vs[j]:Nat):Int)) (by unfold ints;rw [List.getElem?_map,List.getElem?_eq_getElem hj2];rfl);have hmem:=List.getElem_mem hj2;have htk:=runs_takeP (R:=exq ns) [.fn a names (body a t)] hj2 X;have hst:=sumT_take (ns:=ns) hj2;have hsl:=sumT_le (ns:=ns) vs (j+1);have HCL:=Lib.hid (hC.out.call (R:=exq ns (.dat vs[j])) (B':=B+sumT ns t+2+sumT ns (vs.take (j+1))) (f:=30) (args:=#[.pointer (some ⟨q,0,none⟩),.int .i64 ((vs[j]:Nat):Int),.bool false]) (fun fv1 hS=>by
              have h2:=HFC.out _ _ _ _ _ vs[j] false (HVN.out _ hmem) (by have:=HVT.out _ hmem;have:=HNN.out;omega) (by have:=HSUM.out;have:=HBB.out;omega) hS;refine h2.mono fun e w1 hQ=>hQ.mono (by omega)))
            have HTK:=Lib.hid htk;generalize vs[j]=i5 at *;clear hj2 hFr e2 hc1 hc2 hc3 hz hg hmem htk hst hsl hC
            go_wp2_with (first
              | (go_at_call 30;(with_reducible refine HCL.out.mono ?_);rintro e w4 ⟨fv2,ks,k,he,hks,ho,hS,hF4,hsz,hY⟩;(replace he:e = .returned (.int .i64 ((k:Nat):Int)):=he);subst he;have HKS:=Lib.hid hks;have HO:=Lib.hid (by rw [hks] at ho;exact ho);have HOK:=Lib.hid ho;have HS:=Lib.hid hS;have HF4:=Lib.hid hF4;have HSZ:=Lib.hid hsz;have HY:=Lib.hid hY;clear hks ho hS hF4 hsz hY)
              | (at_builtin;refine rplace_push (l:=ks) (n:=k) rfl HOK.out HSZ.out (by have:=HKS.out;omega) rfl (.tmp 67) (.tmp 74) rfl rfl rfl ?_;intro A3 c3 w5 hO3 hF3 hA3;have HN:=Lib.hid (Col.next (Nat.le_trans H0.out HF2.out.drew.size) HS.out HF4.out HOK.out HY.out hO3 hF3 hA3);clear hO3 hF3 hA3))
            go_roundw
            case rel =>
              have h:=HN.out;rw [HKS.out,← HTK.out] at h;exact ⟨j+1,A3,c3,by omega,by rw [HKS.out],by go_num,Lib.hid h⟩
            case measure=>simp [intOf];omega
          · obtain rfl:j=mv:=by omega
            have hall:vs.take j=vs:=List.take_of_length_le (by rw [HMV.out];exact Nat.le_refl _);have hC2:=hC.out;rw [hall] at hC2;obtain ⟨fv1,ks,hks,ho,hS,hFr1,hY⟩:=hC2;have hSL:Sl wo (E++Zx q fv1) (.slice OA (j+1) oc) (ints ks):=Sl.own ho (fun b5 hb5 hm=>by
              rcases List.mem_append.1 hm with hm | hm
              · have h1:=(HSE.out b5 hm)
                have h2:=(MM.own_lt ho b5 hb5).2;have h3:=HF2.out.drew.size;omega
              · exact (hS.ezE b5 (List.mem_append_left _ (by simpa using hb5))).2.2 hm)
            have HPUT:=Lib.hid (sput_any hS.less (by have:=HSUM.out;have:=HBB.out;omega) { frm 10 a 0 with l:=ks } (Sl.nil _ _) hSL);have HCO:=Lib.hid (collect _ (frm 10 a 0) ks hY);have HFR:=Lib.hid hFr1;have u1:=(HBX2.out.drew.far hFr1.far HBZ.out).at (i:=1) rfl;unfold frm at HPUT;simp only at HPUT
            unfold ptr LX.emp at HPUT;clear hall hC hks ho hS hFr hFr1 hY hSL
            go_wp2_with (go_at_call 56;(with_reducible refine HPUT.out.mono ?_);rintro e w1 hQ;have HQ:=Lib.hid hQ;obtain ⟨k,fv2,he,-⟩:=hQ;(replace he:e = .returned (.int .i64 ((k:Nat):Int)):=he);subst he)
            go_ret
            have h:=(HQ.out.from HFR.out).from (Fr.quiet HF2.out.drew)
            have e:(bnd (fsts (bnd X fun st=>runs (exq ns) ([.fn a names (body a t)]++vs.map .dat) st [])) fun st=>Except.ok (st++[({ frm 10 a 0 with l:=ks }:Fm)],st.length))=bnd X (onPl (exq ns) (call a names (body a t) (vs.map .dat))):=by
              rw [HCO.out,bnd_bnd];congr 1
              funext st
              exact (onPl_mk _ _ _ _).symm
            rw [← e];exact h.mono (by have:=HSUM.out;omega)
end
end EW
end Go.Proofs.YtehgmmbdlnginaaGreatDoor
