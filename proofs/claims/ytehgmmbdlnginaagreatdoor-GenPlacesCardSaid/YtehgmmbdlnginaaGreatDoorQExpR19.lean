/-
  Layer 8's document: set!, let*, and all lists with a reserved name at their head. Conditions: form, of parts of less weight.
-/
import Derived.Test.YtehgmmbdlnginaaGreatDoorQExpR18
namespace Go.Proofs.YtehgmmbdlnginaaGreatDoor
open Go.RowKit
set_option linter.unusedVariables false
namespace EW
open LX SX RW6 EX
open RX (Nd)
section
variable {w0 w w1:World} {Z E:List Nat} {q:Nat} {b o:Nat} {n c:Nat} {ns:List Nd} {dv fv:Value} {X:Except Int (List Fm)} {B:Nat}
theorem sput_one_far {w3:World} {k:Int} {a:Int} {s:ByteArray} {R:List Fm→Except Int (List Fm × Nat)} {v:Nat} (h:Stx w0 w E q dv fv (fst' (bnd X R)) B) (hk:∀ st k,bnd X R = .ok (st,k)→v=k) (hB:B≤200000)
    (f:MM.Far [] (w.alloc (.cells #[.int .i64 ((v:Nat):Int)] 3)).drew w3) :
    Calls Tryz.prog 56 #[ptr q,.agg #[.int .u8 k,.int .i64 a,.int .i64 0,.int .i64 0,.string s,.slice none 0 0,.int .u64 0,.slice (some ⟨w.heap.size,0,none⟩) 1 1]]
      w3 (OutQ w0 w E q dv fv (bnd X fun st=>bnd (R st) fun y=>.ok (y.1++[({ (⟨k,a,0,s,[],[]⟩:Fm) with l:=[y.2] }:Fm)],y.1.length)) (B+1)):=by
  have F1:=((MM.Far.refl [] w).alloc (.cells #[.int .i64 ((v:Nat):Int)] 3)).drew;have F3:=F1.trans f (by simp);have R1:MM.Row w3 w.heap.size 3 (ints [v]):=((MM.Row.new w 3 (ints [v])).drew).far f (by simp);have hs:Sl w3 (E++Zx q fv) (.slice (some ⟨w.heap.size,0,none⟩) 1 1) (ints [v]):=Sl.row R1 (fun hm=>by have:=h.zlt _ hm;omega) (by rw [ints_len];unfold maxLen;simp);have:=sput_any (h.to F3) hB (⟨k,a,0,s,[],[v]⟩:Fm) (Sl.nil _ _) hs;have e2:=collect1 _ (⟨k,a,0,s,[],[]⟩:Fm) v hk;rw [bnd_bnd] at e2;rw [← e2];exact this.mono fun e w1 hQ=>hQ.from (Fr.quiet F3)
set_option maxHeartbeats 4000000 in
set_option maxRecDepth 20000 in
theorem sp_Set {N:Nat} (HF:FormC w0 q (some ⟨b,o,none⟩) n c ns N) (D:Dta w0 (some ⟨b,o,none⟩) n ns) (h:Stx w0 w E q (.slice (some ⟨b,o,none⟩) n c) fv X B) {i:Nat} (hi:i < n) (hN:16*T ns i≤N+9) (hB:B+(16*T ns i - 8)≤200000) {x:Nat} {r:List Nat} (hl:(ndAt ns i).l=x::r) (hs:(ndAt ns x).s=⟨#[115,101,116,33]⟩) (top:Bool) :
    Calls Tryz.prog 60 #[ptr q,num i,.bool top] w (OutQ w0 w E q (.slice (some ⟨b,o,none⟩) n c) fv (bnd X (onPl (exq ns) (if r.length=2 then setP ns (ndAt ns i).at_ r else .bad (ndAt ns i).at_))) (B+(16*T ns i - 8))):=by
  obtain ⟨g,oo,m,lc,kd,nd,a,sd,H⟩:=h.hd D hi hl;have HW:=Lib.hid (fun (w':World) (f:MM.Far [] w w')=>swrong_any (h.to f) D.nd D.len hi (D.at0 i));have ha:=H.ha;rw [ha] at HW ⊢;have hi0:(0:Int)≤(i:Int):=by omega
  have hi1:(i:Int) < (n:Int):=by omega
  obtain ⟨hb,d0,d1,d2,d3,d4,c0,sl,hm,-,hT,hall,hkT,few,F0,R0,hbx⟩:=H;have hx:=D.kid (i:=i) (p:=x) (by rw [hl];exact List.mem_cons_self ..);obtain ⟨LB,lb,-,-,-,-,g3,-,-⟩:=h.datc D hx;rw [hs] at g3;have hx0:(0:Int)≤(x:Int):=by omega
  have hx1:(x:Int) < (n:Int):=by omega
  have hm0:(0:Int) < (m:Int):=by omega
  have hm0n:0 < m:=by omega
  have HSL:=Lib.hid (sl.far F0 (by simp));have x0:=HSL.out.get 0 (j:=oo) rfl rfl;have v0:=far_cell F0 c0;have v1:=R0.at (i:=1) rfl;have v4:=R0.at (i:=4) rfl;have vg3:=far_cell F0 g3;have HBX:=Lib.hid R0;have HBZ:=Lib.hid hbx;have HF0:=Lib.hid F0;have HTP:=Lib.hid (T_pos ns x);have HBB:=Lib.hid hB;have HTT:=Lib.hid hT;have HMM:=Lib.hid hm;by_cases h1:r.length=2
  · rw [if_pos h1];obtain ⟨y,z,t,rfl⟩:=two (r:=r) (by omega);obtain rfl:t=[]:=List.eq_nil_of_length_eq_zero (by simpa using h1);have hm2:m=3:=by simpa using hm.symm
    subst hm2;have hy:=hall y (by simp);have hz:=hall z (by simp);have hzT:=hkT z (by simp);have hsx:sumT ns [y,z]=16*T ns y+16*T ns z:=by simp [sumT]
    rw [hsx] at hT HTT;have HTy:=Lib.hid (T_pos ns y);have x1:=HSL.out.get 1 rfl rfl;have HN1:=Lib.hid (sname_any (h.to F0.drew) D hy);have HNAME:=Lib.hid (fun (w':World) (fv1:Value) (X1:Except Int (List Fm)) (B1:Nat) (hS:Stx w0 w' E q (.slice (some ⟨b,o,none⟩) n c) fv1 X1 B1)=>sname_any hS D hy);have HFORM:=Lib.hid (fun (w':World) (f:MM.Far [] w w')=>HF _ _ _ _ _ z false hz (by omega) (by omega) (h.to f));have HNE:=Lib.hid (fun s (e:nameOf ns y=some s)=>nameOf_ne e);have hSP:setP ns a [y,z]=match nameOf ns y with
      | none=>.bad a
      | some s=>.mk ⟨7,a,0,s,[],[]⟩ [.dat z]:=rfl
    rw [hSP];clear hSP;clear HF D h hl hT hall hkT sl F0 R0 ha hs hx hm h1 hm0 hm0n hsx hy hz hzT;generalize nameOf ns y=ny at *;cases ny with
    | none =>
      simp only []
      have HN2:Hid (Calls Tryz.prog 99 #[ptr q,num y] (w.alloc (.cells #[.int .u8 kd,.int .i64 a,.int .i64 nd,.string sd,.slice (some ⟨g,oo,none⟩) 3 lc] 122)).drew fun e w'=>e = .returned (.string ⟨#[]⟩)∧MM.Far [] (w.alloc (.cells #[.int .u8 kd,.int .i64 a,.int .i64 nd,.string sd,.slice (some ⟨g,oo,none⟩) 3 lc] 122)).drew w'):=HN1;clear HN1 HNE HNAME;unfold ptr num at *;go_enter Tryz.func60,Tryz.ntmps60
      go_wp2;generalize w.alloc (.cells #[.int .u8 kd,.int .i64 a,.int .i64 nd,.string sd,.slice (some ⟨g,oo,none⟩) 3 lc] 122)=W at *
      go_region_held3 (fun w'=>w'.cell? ⟨q,0,none⟩=some (.slice (some ⟨b,o,none⟩) n c)∧w'.cell? ⟨w.heap.size,4,none⟩=some (.slice (some ⟨g,oo,none⟩) 3 lc)∧w'.cell? ⟨g,oo,none⟩=some (.int .i64 (x:Nat))∧w'.cell? ⟨b,o+x*5+3,none⟩=some (.string ⟨#[115,101,116,33]⟩)) (first | (with_reducible assumption) | go_keep) (fail)
      go_wp2_with (first
        | (go_at_call 99;(with_reducible refine HN2.out.mono ?_);rintro e w2 ⟨rfl,hF2⟩;have HF2:=Lib.hid (HF0.out.drew.trans hF2 (by simp));have HC:=Lib.hid (HW.out _ HF2.out);clear hF2)
        | (go_at_call 59;(with_reducible refine HC.out.mono ?_);rintro e w3 hQ;have HQ:=Lib.hid (hQ.from (Fr.quiet HF2.out));obtain ⟨k,fv1,he,-⟩:=hQ;(replace he:e = .returned (.int .i64 ((k:Nat):Int)):=he);subst he))
      go_ret
      exact HQ.out.mono (by omega)
    | some s =>
      simp only []
      have hb3:¬ s.toList=[]:=toList_ne (fun h=>HNE.out s rfl (size_zero h));have hb4:s.toList.isEmpty=false:=by simpa using hb3
      have hb5:(s.toList == [])=false:=by rw [beq_eq_false_iff_ne];exact hb3
      have HN2:Hid (Calls Tryz.prog 99 #[ptr q,num y] (w.alloc (.cells #[.int .u8 kd,.int .i64 a,.int .i64 nd,.string sd,.slice (some ⟨g,oo,none⟩) 3 lc] 122)).drew fun e w'=>e = .returned (.string s)∧MM.Far [] (w.alloc (.cells #[.int .u8 kd,.int .i64 a,.int .i64 nd,.string sd,.slice (some ⟨g,oo,none⟩) 3 lc] 122)).drew w'):=HN1;have HEX:Hid (onPl (exq ns) (.mk ⟨7,a,0,s,[],[]⟩ [.dat z])=_):=Lib.hid (funext fun st=>runs1 (exq ns) (⟨7,a,0,s,[],[]⟩:Fm) (.dat z) st);rw [HEX.out];clear HN1 HNE HEX HW;unfold ptr num at *;go_enter Tryz.func60,Tryz.ntmps60
      go_wp2;generalize w.alloc (.cells #[.int .u8 kd,.int .i64 a,.int .i64 nd,.string sd,.slice (some ⟨g,oo,none⟩) 3 lc] 122)=W at *
      go_region_held3 (fun w'=>w'.cell? ⟨q,0,none⟩=some (.slice (some ⟨b,o,none⟩) n c)∧w'.cell? ⟨w.heap.size,4,none⟩=some (.slice (some ⟨g,oo,none⟩) 3 lc)∧w'.cell? ⟨g,oo,none⟩=some (.int .i64 (x:Nat))∧w'.cell? ⟨b,o+x*5+3,none⟩=some (.string ⟨#[115,101,116,33]⟩)) (first | (with_reducible assumption) | go_keep) (fail)
      go_wp2_with (first
        | (go_at_call 99;(with_reducible refine HN2.out.mono ?_);rintro e w2 ⟨rfl,hF2⟩;have HBX2:=Lib.hid (HBX.out.drew.far hF2 (by simp));have u4:=HBX2.out.at (i:=4) rfl;have hs2:=HSL.out.far ((MM.Far.refl [] W).drew.trans hF2 (by simp)) (by simp);have t2:=hs2.get 2 rfl rfl;have HSL2:=Lib.hid hs2;have HF2:=Lib.hid (HF0.out.drew.trans hF2 (by simp));have HC:=Lib.hid (HFORM.out _ HF2.out);unfold num at t2;clear hF2 hs2)
        | (go_at_call 30;(with_reducible refine HC.out.mono ?_);rintro e w3 ⟨k1,fv1,he,hF1,hS1,hk1⟩;(replace he:e = .returned (.int .i64 ((k1:Nat):Int)):=he);subst he
           have HNA:=Lib.hid (HNAME.out _ _ _ _ (hS1.to (MM.Far.refl [] w3).drew));have HNB:=Lib.hid (HNAME.out _ _ _ _ (hS1.to ((MM.Far.refl [] w3).alloc (.cells #[.int .i64 ((k1:Nat):Int)] 3)).drew));have u1:=(HBX2.out.far hF1.far HBZ.out).at (i:=1) rfl;have u4:=(HBX2.out.far hF1.far HBZ.out).at (i:=4) rfl;have t1:=(hF1.sl HSL2.out).get 1 rfl rfl;unfold num at t1;have HS1:=Lib.hid hS1;have HK1:=Lib.hid hk1;have HF3:=Lib.hid hF1;clear hF1 hS1 hk1))
      go_region_held3 (fun w'=>w'.cell? ⟨w.heap.size,1,none⟩=some (.int .i64 a)∧w'.cell? ⟨w.heap.size,4,none⟩=some (.slice (some ⟨g,oo,none⟩) 3 lc)∧w'.cell? ⟨g,oo+1,none⟩=some (.int .i64 (y:Nat))) (first | (with_reducible assumption) | go_keep) (first
        | (go_at_call 99;(with_reducible refine HNA.out.mono ?_);rintro e w4 ⟨he,hF4⟩;(replace he:e = .returned (.string s):=he);subst he;have hk:=keep3 hF4 (by assumption)
           have HPA:=Lib.hid (sput_one (k:=7) (a:=a) (s:=s) (HS1.out.to ((MM.Far.refl [] w3).drew.trans hF4 (by simp))) HK1.out (by have:=HBB.out;have:=HTT.out;have:=HTP.out;have:=HTy.out;omega) rfl);unfold ptr at HPA;have HF4:=Lib.hid (HF3.out.trans (Fr.quiet ((MM.Far.refl [] w3).drew.trans hF4 (by simp))));clear hF4)
        | (go_at_call 99;(with_reducible refine HNB.out.mono ?_);rintro e w4 ⟨he,hF4⟩;(replace he:e = .returned (.string s):=he);subst he;have hk:=keep3 hF4 (by assumption)
           have HPB:=Lib.hid (sput_one_far (k:=7) (a:=a) (s:=s) HS1.out HK1.out (by have:=HBB.out;have:=HTT.out;have:=HTP.out;have:=HTy.out;omega) hF4);unfold ptr at HPB;clear hF4)
        | (go_at_call 56;(with_reducible refine HPA.out.mono ?_);rintro e w5 hQ;have HQ:=Lib.hid (hQ.from HF4.out);obtain ⟨k4,fv4,he,hFr,-⟩:=hQ;(replace he:e = .returned (.int .i64 ((k4:Nat):Int)):=he);subst he
           have hFq:=HF4.out.trans hFr;have hk:w5.cell? ⟨w.heap.size,1,none⟩=some (.int .i64 a)∧w5.cell? ⟨w.heap.size,4,none⟩=some (.slice (some ⟨g,oo,none⟩) 3 lc)∧w5.cell? ⟨g,oo+1,none⟩=some (.int .i64 (y:Nat)):=⟨(HBX2.out.far hFq.far HBZ.out).at (i:=1) rfl,(HBX2.out.far hFq.far HBZ.out).at (i:=4) rfl,(hFq.sl HSL2.out).get 1 rfl rfl⟩
           clear hFr hFq)
        | (go_at_call 56;(with_reducible refine HPB.out.mono ?_);rintro e w5 hQ;have HQ:=Lib.hid (hQ.from HF3.out);obtain ⟨k4,fv4,he,hFr,-⟩:=hQ;(replace he:e = .returned (.int .i64 ((k4:Nat):Int)):=he);subst he
           have hFq:=HF3.out.trans hFr;have hk:w5.cell? ⟨w.heap.size,1,none⟩=some (.int .i64 a)∧w5.cell? ⟨w.heap.size,4,none⟩=some (.slice (some ⟨g,oo,none⟩) 3 lc)∧w5.cell? ⟨g,oo+1,none⟩=some (.int .i64 (y:Nat)):=⟨(HBX2.out.far hFq.far HBZ.out).at (i:=1) rfl,(HBX2.out.far hFq.far HBZ.out).at (i:=4) rfl,(hFq.sl HSL2.out).get 1 rfl rfl⟩
           clear hFr hFq))
      all_goals
        go_wp2;go_ret
        exact (HQ.out.from (Fr.quiet HF2.out)).mono (by have:=HTT.out;have:=HTP.out;have:=HTy.out;omega)
  · rw [if_neg h1];have h5:¬ (m:Int)=3:=by omega
    have h51:((m:Int) == 3)=false:=by simp [h5]
    have h52:((m:Int) != 3)=true:=by simp [h5]
    have HC:=Lib.hid (HW.out _ F0.drew);clear HF D h hl hT hall hkT sl F0 R0 ha hs hx hm HW h1;unfold ptr num at *;go_enter Tryz.func60,Tryz.ntmps60
    go_wp2;generalize w.alloc (.cells #[.int .u8 kd,.int .i64 a,.int .i64 nd,.string sd,.slice (some ⟨g,oo,none⟩) m lc] 122)=W at *
    go_region_held3 (fun w'=>w'.cell? ⟨q,0,none⟩=some (.slice (some ⟨b,o,none⟩) n c)∧w'.cell? ⟨w.heap.size,4,none⟩=some (.slice (some ⟨g,oo,none⟩) m lc)∧w'.cell? ⟨g,oo,none⟩=some (.int .i64 (x:Nat))∧w'.cell? ⟨b,o+x*5+3,none⟩=some (.string ⟨#[115,101,116,33]⟩)) (first | (with_reducible assumption) | go_keep) (fail)
    go_wp2_with (first
      | (go_at_call 59;(with_reducible refine HC.out.mono ?_);rintro e w3 hQ;have HQ:=Lib.hid (hQ.from (Fr.quiet HF0.out.drew));obtain ⟨k,fv1,he,-⟩:=hQ;(replace he:e = .returned (.int .i64 ((k:Nat):Int)):=he);subst he))
    go_ret
    exact HQ.out.mono (by omega)
set_option maxHeartbeats 4000000 in
set_option maxRecDepth 20000 in
theorem sp_Star {N:Nat} (HF:FormC w0 q (some ⟨b,o,none⟩) n c ns N) (D:Dta w0 (some ⟨b,o,none⟩) n ns) (h:Stx w0 w E q (.slice (some ⟨b,o,none⟩) n c) fv X B) {i:Nat} (hi:i < n) (hN:16*T ns i≤N+9) (hB:B+(16*T ns i - 8)≤200000) {x:Nat} {r:List Nat} (hl:(ndAt ns i).l=x::r) (hs:(ndAt ns x).s=⟨#[108,101,116,42]⟩) (top:Bool) :
    Calls Tryz.prog 60 #[ptr q,num i,.bool top] w (OutQ w0 w E q (.slice (some ⟨b,o,none⟩) n c) fv (bnd X (onPl (exq ns) (atL 2 (ndAt ns i).at_ r (starP ns (ndAt ns i).at_ r)))) (B+(16*T ns i - 8))):=by
  obtain ⟨g,oo,m,lc,kd,nd,a,sd,H⟩:=h.hd D hi hl;have HW:=Lib.hid (fun (w':World) (f:MM.Far [] w w')=>swrong_any (h.to f) D.nd D.len hi (D.at0 i));have ha:=H.ha;rw [ha] at HW ⊢;have hi0:(0:Int)≤(i:Int):=by omega
  have hi1:(i:Int) < (n:Int):=by omega
  obtain ⟨hb,d0,d1,d2,d3,d4,c0,sl,hm,-,hT,hall,hkT,few,F0,R0,hbx⟩:=H;have hx:=D.kid (i:=i) (p:=x) (by rw [hl];exact List.mem_cons_self ..);obtain ⟨LB,lb,-,-,-,-,g3,-,-⟩:=h.datc D hx;rw [hs] at g3;have hx0:(0:Int)≤(x:Int):=by omega
  have hx1:(x:Int) < (n:Int):=by omega
  have hm0:(0:Int) < (m:Int):=by omega
  have hm0n:0 < m:=by omega
  have HSL:=Lib.hid (sl.far F0 (by simp));have x0:=HSL.out.get 0 (j:=oo) rfl rfl;have v0:=far_cell F0 c0;have v1:=R0.at (i:=1) rfl;have v4:=R0.at (i:=4) rfl;have vg3:=far_cell F0 g3;have HBX:=Lib.hid R0;have HBZ:=Lib.hid hbx;have HF0:=Lib.hid F0;have HTP:=Lib.hid (T_pos ns x);have HBB:=Lib.hid hB;have HTT:=Lib.hid hT;have HMM:=Lib.hid hm;by_cases h1:r.length < 2
  · have hE:atL 2 a r (starP ns a r) = .bad a:=by unfold atL;rw [if_pos h1]
    rw [hE];have h5:(m:Int) < 3:=by omega
    have HC:=Lib.hid (HW.out _ F0.drew);clear HF D h hl hT hall hkT sl F0 R0 ha hs hx hm HW hE h1;unfold ptr num at *;go_enter Tryz.func60,Tryz.ntmps60
    go_wp2;generalize w.alloc (.cells #[.int .u8 kd,.int .i64 a,.int .i64 nd,.string sd,.slice (some ⟨g,oo,none⟩) m lc] 122)=W at *
    go_region_held3 (fun w'=>w'.cell? ⟨q,0,none⟩=some (.slice (some ⟨b,o,none⟩) n c)∧w'.cell? ⟨w.heap.size,4,none⟩=some (.slice (some ⟨g,oo,none⟩) m lc)∧w'.cell? ⟨g,oo,none⟩=some (.int .i64 (x:Nat))∧w'.cell? ⟨b,o+x*5+3,none⟩=some (.string ⟨#[108,101,116,42]⟩)) (first | (with_reducible assumption) | go_keep) (fail)
    go_wp2_with (first
      | (go_at_call 59;(with_reducible refine HC.out.mono ?_);rintro e w3 hQ;have HQ:=Lib.hid (hQ.from (Fr.quiet HF0.out.drew));obtain ⟨k,fv1,he,-⟩:=hQ;(replace he:e = .returned (.int .i64 ((k:Nat):Int)):=he);subst he))
    go_ret
    exact HQ.out.mono (by omega)
  · have hE:atL 2 a r (starP ns a r)=starP ns a r:=by unfold atL;rw [if_neg h1]
    rw [hE];clear hE;have h5:¬ (m:Int) < 3:=by omega
    have hb1:(1:Int) < (m:Int):=by omega
    obtain ⟨y,t,rfl⟩:=one (r:=r) (by omega);have hy:=hall y (List.mem_cons_self ..);have hyT:=hkT y (List.mem_cons_self ..);have hyW:=T_all D.ok y;have hsx:sumT ns (y::t)=16*T ns y+sumT ns t:=by simp [sumT]
    rw [hsx] at hT HTT;have x1:=HSL.out.get 1 rfl rfl;have HPR:=Lib.hid (spairs_any (h.to F0.drew) D hy);have hSP:starP ns a (y::t)=match dpairs ns y with
      | none=>.bad a
      | some (bs,vs)=>nestedP a (bs.map fun i=>(ndAt ns i).s) vs (body a t):=by rw [starP_eq];rfl
    rw [hSP];clear hSP;cases hd:dpairs ns y with
    | none =>
      rw [hd] at HPR;simp only []
      clear HF D h hl hT hall hkT sl F0 R0 ha hs hx hm h1 hsx hy hyT hyW hd;unfold ptr num at *;go_enter Tryz.func60,Tryz.ntmps60
      go_wp2;generalize w.alloc (.cells #[.int .u8 kd,.int .i64 a,.int .i64 nd,.string sd,.slice (some ⟨g,oo,none⟩) m lc] 122)=W at *
      go_region_held3 (fun w'=>w'.cell? ⟨q,0,none⟩=some (.slice (some ⟨b,o,none⟩) n c)∧w'.cell? ⟨w.heap.size,4,none⟩=some (.slice (some ⟨g,oo,none⟩) m lc)∧w'.cell? ⟨g,oo,none⟩=some (.int .i64 (x:Nat))∧w'.cell? ⟨b,o+x*5+3,none⟩=some (.string ⟨#[108,101,116,42]⟩)) (first | (with_reducible assumption) | go_keep) (fail)
      go_wp2_with (first
        | (go_at_call 103;(with_reducible refine HPR.out.mono ?_);rintro e w2 ⟨hQ,hF2⟩;obtain rfl:e = .returned (.tuple #[.slice none 0 0,.slice none 0 0,.bool false]):=hQ;have HF2:=Lib.hid (HF0.out.drew.trans hF2 (by simp));have HC:=Lib.hid (HW.out _ HF2.out);clear hF2)
        | (go_at_call 59;(with_reducible refine HC.out.mono ?_);rintro e w3 hQ;have HQ:=Lib.hid (hQ.from (Fr.quiet HF2.out));obtain ⟨k,fv1,he,-⟩:=hQ;(replace he:e = .returned (.int .i64 ((k:Nat):Int)):=he);subst he))
      go_ret
      exact HQ.out.mono (by omega)
    | some pr =>
      obtain ⟨bs,vs⟩:=pr;rw [hd] at HPR;simp only []
      obtain ⟨hbv,hvw,hin⟩:=pairs_facts D.ok (dpairs_some hd).1;have hbn:=fun p (hp:p∈bs)=>D.len ▸ hin p (List.mem_append_left _ hp)
      have hvn:=fun p (hp:p∈vs)=>D.len ▸ hin p (List.mem_append_right _ hp)
      have hvT:∀ p∈vs,p < n∧16*T ns p - 8≤N:=fun p hp=>⟨hvn p hp,by
        have h1:16*T ns p≤wts ns vs:=by unfold wts;exact sumT_mem (f:=fun i=>16*T ns i) hp
        omega⟩
      have hsum:B+sumT ns vs+sumT ns t+1≤B+(16*T ns i - 8):=by
        have:sumT ns vs=wts ns vs:=rfl;have:=T_pos ns x;omega
      obtain ⟨g',oo',cc,e,_,_,_,_,hs2⟩:=Sl.open_ (u:=num x) (vs:=ints (y::t)) sl;injection e with e1 e2 e3;injection e1 with e1;injection e1 with ea eb;subst ea;subst eb;subst e3;have hst:=hs2 (num y) (ints t) rfl;have htl:(ints t).length+2=m:=by rw [ints_len];simpa using hm
      have hsl2:=fun X'=>slice_ints2 g oo (ints t).length lc m htl X'
      generalize (if lc=2 then some (⟨g,oo,none⟩:Addr) else some ⟨g,oo+2,none⟩)=SA at hsl2 hst;generalize lc - 2=sc at hsl2 hst;obtain ⟨tm,htm⟩:∃ tm,t.length=tm:=⟨_,rfl⟩
      rw [ints_len,htm] at hsl2 hst htl;have HST:=Lib.hid (fun (w2:World) (f:MM.Far [] w w2) (PA:Option Addr) (pm pc:Nat) (VA:Option Addr) (vm vc:Nat) (hp:Sl w2 (E++Zx q fv) (.slice PA pm pc) (ints bs)) (hv:Sl w2 (E++Zx q fv) (.slice VA vm vc) (ints vs)) =>
        sstars_any HF D a htm (by omega) (fun p hp=>⟨hall p (List.mem_cons_of_mem _ hp),by have:=hkT p (List.mem_cons_of_mem _ hp);omega⟩) bs vs _ _ _ _ PA pm pc VA vm vc hbv (h.to f) hp hv (hst.far f (by simp)) hbn hvT (by omega))
      have HSUM:=Lib.hid hsum;have HQE:Hid (exq ns (.nested a (bs.map fun i=>(ndAt ns i).s) vs (body a t))=onPl (exq ns) (nestedP a (bs.map fun i=>(ndAt ns i).s) vs (body a t))):=Lib.hid (funext fun st=>exq_eq D.ok _ st);clear HF D h hl hT hall hkT sl F0 R0 ha hs hx hm HW h1 hsx hy hyT hyW hd hs2 hst htl htm e2 hbv hvw hin hbn hvn hvT hsum;unfold ptr num at *;go_enter Tryz.func60,Tryz.ntmps60
      go_wp2;generalize w.alloc (.cells #[.int .u8 kd,.int .i64 a,.int .i64 nd,.string sd,.slice (some ⟨g,oo,none⟩) m lc] 122)=W at *
      go_region_held3 (fun w'=>w'.cell? ⟨q,0,none⟩=some (.slice (some ⟨b,o,none⟩) n c)∧w'.cell? ⟨w.heap.size,4,none⟩=some (.slice (some ⟨g,oo,none⟩) m lc)∧w'.cell? ⟨g,oo,none⟩=some (.int .i64 (x:Nat))∧w'.cell? ⟨b,o+x*5+3,none⟩=some (.string ⟨#[108,101,116,42]⟩)) (first | (with_reducible assumption) | go_keep) (fail)
      go_wp2_with (first
        | (go_at_call 103;(with_reducible refine HPR.out.mono ?_);rintro e w2 ⟨⟨bv,vv,rfl,hbS,hvS⟩,hF2⟩;obtain ⟨BA,bc,rfl,-,-⟩:=hbS.form;obtain ⟨VA,vc,rfl,-,-⟩:=hvS.form;have HBX2:=Lib.hid (HBX.out.drew.far hF2 (by simp));have u1:=HBX2.out.at (i:=1) rfl;have u4:=HBX2.out.at (i:=4) rfl;have HF2:=Lib.hid (HF0.out.drew.trans hF2 (by simp));have HC:=Lib.hid (HST.out _ HF2.out.drew _ _ _ _ _ _ (hbS.far (MM.Far.refl [] w2).drew (by simp)) (hvS.far (MM.Far.refl [] w2).drew (by simp)));clear hF2 hbS hvS))
      go_region_held3 (fun w'=>w'.cell? ⟨w.heap.size,1,none⟩=some (.int .i64 a)∧w'.cell? ⟨w.heap.size,4,none⟩=some (.slice (some ⟨g,oo,none⟩) m lc)) (first | (with_reducible assumption) | go_keep) (first
        | (go_at_call 104;(with_reducible refine HC.out.mono ?_);rintro e w3 hQ;have HQ:=Lib.hid (hQ.from (Fr.quiet HF2.out.drew));obtain ⟨k,fv1,he,hFr,-⟩:=hQ;(replace he:e = .returned (.int .i64 ((k:Nat):Int)):=he);subst he
           have hk:w3.cell? ⟨w.heap.size,1,none⟩=some (.int .i64 a)∧w3.cell? ⟨w.heap.size,4,none⟩=some (.slice (some ⟨g,oo,none⟩) m lc):=⟨(HBX2.out.drew.far hFr.far HBZ.out).at (i:=1) rfl,(HBX2.out.drew.far hFr.far HBZ.out).at (i:=4) rfl⟩
           clear hFr))
      go_wp2;go_ret
      have hh:=HQ.out;rw [HQE.out] at hh;exact hh.mono HSUM.out
theorem sspecial_any {N:Nat} (HF:FormC w0 q (some ⟨b,o,none⟩) n c ns N) (D:Dta w0 (some ⟨b,o,none⟩) n ns) (h:Stx w0 w E q (.slice (some ⟨b,o,none⟩) n c) fv X B) {i:Nat} (hi:i < n) (hN:16*T ns i≤N+9) (hB:B+(16*T ns i - 8)≤200000) {x:Nat} {r:List Nat} (hl:(ndAt ns i).l=x::r) (hres:reserved (ndAt ns x).s=true) (top:Bool) :
    Calls Tryz.prog 60 #[ptr q,num i,.bool top] w (OutQ w0 w E q (.slice (some ⟨b,o,none⟩) n c) fv (bnd X (onPl (exq ns) (EX.shape ns (ndAt ns x).s (ndAt ns i).at_ r top))) (B+(16*T ns i - 8))):=by
  unfold reserved resN at hres;rw [decide_eq_true_iff] at hres;simp only [List.mem_cons,List.not_mem_nil,or_false] at hres
  rcases hres with hres | hres | hres | hres | hres | hres | hres | hres | hres | hres | hres | hres | hres | hres
  · have e:(ndAt ns x).s=nQuote:=hres;rw [e,shape_Quote];exact sp_Quote HF D h hi hN hB hl e top
  · have e:(ndAt ns x).s=nIf:=hres;rw [e,shape_If];exact sp_If HF D h hi hN hB hl e top
  · have e:(ndAt ns x).s=nLambda:=hres;rw [e,shape_Lambda];exact sp_Lambda HF D h hi hN hB hl e top
  · have e:(ndAt ns x).s=nSet:=hres;rw [e,shape_Set];exact sp_Set HF D h hi hN hB hl e top
  · have e:(ndAt ns x).s=nBegin:=hres;rw [e,shape_Begin];exact sp_Begin HF D h hi hN hB hl e top
  · have e:(ndAt ns x).s=nDefine:=hres;rw [e,shape_Define];cases top with
    | true=>exact sp_Define_t HF D h hi hN hB hl e
    | false=>exact sp_Define_f HF D h hi hN hB hl e
  · have e:(ndAt ns x).s=nLet:=hres;rw [e,shape_Let];exact sp_Let HF D h hi hN hB hl e top
  · have e:(ndAt ns x).s=nStar:=hres;rw [e,shape_Star];exact sp_Star HF D h hi hN hB hl e top
  · have e:(ndAt ns x).s=nCond:=hres;rw [e,shape_Cond];exact sp_Cond HF D h hi hN hB hl e top
  · have e:(ndAt ns x).s=nElse:=hres;rw [e,shape_Else];exact sp_Else HF D h hi hN hB hl e top
  · have e:(ndAt ns x).s=nAnd:=hres;rw [e,shape_And];exact sp_And HF D h hi hN hB hl e top
  · have e:(ndAt ns x).s=nOr:=hres;rw [e,shape_Or];exact sp_Or HF D h hi hN hB hl e top
  · have e:(ndAt ns x).s=nWhen:=hres;rw [e,shape_When];exact sp_When HF D h hi hN hB hl e top
  · have e:(ndAt ns x).s=nUnless:=hres;rw [e,shape_Unless];exact sp_Unless HF D h hi hN hB hl e top
end
end EW
end Go.Proofs.YtehgmmbdlnginaaGreatDoor
